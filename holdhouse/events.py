"""Events: which ones can be made, and what stands behind them.

An opening is an event without its PICKS.
"""

from holdhouse.checks import is_integer
from holdhouse.drafts import Draft, clear_line, do_deeds, frozen
from holdhouse.facts import FACTS, line_facts, presser_facts
from holdhouse.standings import CALLER, STAND


def openings(plan, standing, phones, keys):
    """The openings of all events that can be made, those of these keys, and of the first so many phones, alone."""
    lines, ears = standing
    found = []
    for at, line in enumerate(lines):
        found.append(("call" if plan.is_free(standing, at) else "late", at))
        if line[CALLER]:
            found.append(("gone", at))
    for phone in range(phones):
        if ears[phone] is not None:
            found.append(("lay", phone))
        for key in keys:
            for at in range(len(lines)):
                found.append(("key", key, phone, at))
    return found


def line_of(opening, ears):
    """The line that the event concerns."""
    if opening[0] == "lay":
        return ears[opening[1]]
    return opening[3] if opening[0] == "key" else opening[1]


def presser_of(opening):
    """The phone whose event it is, or None."""
    if opening[0] == "lay":
        return opening[1]
    return opening[2] if opening[0] == "key" else None


def occasion_of(opening):
    """The occasion of the rows for the event."""
    return "key " + opening[1] if opening[0] == "key" else opening[0]


def row_at(plan, standing, opening):
    """The row that does its deeds at the event, or None."""
    at = line_of(opening, standing[1])
    return row_with(plan, standing, opening, at, line_facts(standing, at, plan.stand_facts))


def row_with(plan, standing, opening, at, facts):
    """The row that does its deeds at the event; `facts` are those of its line ahead of the event."""
    if opening[0] == "call":
        facts = facts | FACTS["caller"]
    elif opening[0] == "gone":
        facts = facts ^ FACTS["caller"]
    elif opening[0] == "key":
        facts = facts | presser_facts(standing, at, opening[2])
    elif opening[0] == "lay":
        facts = facts_without_ear(facts | presser_facts(standing, at, opening[1]))
    return plan.row_for(occasion_of(opening), facts)


def facts_without_ear(facts):
    """The facts when the phone that heard the line, and makes the event, does not hear it any more."""
    return facts ^ (FACTS["ear a"] if facts & FACTS["me a"] else FACTS["ear b"])


def drafted(plan, standing, opening, row, picks):
    """The draft behind an event with this row, or none; what it misses is empty if the picks were enough."""
    draft = Draft(standing, line_of(opening, standing[1]), presser_of(opening), picks)
    come_or_go(draft, opening[0])
    if row is not None:
        do_deeds(draft, row[2])
    # Only the line of the event can have come to its free stand, or got something there.
    if draft.own[STAND] == plan.free_stand:
        clear_line(draft)
    return draft


def come_or_go(draft, kind):
    """What comes ahead of the rows: a caller comes or goes, or a phone hears nothing any more."""
    if kind == "call":
        draft.own[CALLER] = True
    elif kind == "gone":
        draft.own[CALLER] = False
    elif kind == "lay":
        draft.hearers[draft.presser] = None


def is_event_form(thing):
    """Whether it is a tuple of words and integers, with a tuple of integers behind them."""
    if not isinstance(thing, tuple) or not thing or not isinstance(thing[-1], tuple):
        return False
    return (all([isinstance(piece, str) or is_integer(piece) for piece in thing[:-1]])
            and all([is_integer(phone) for phone in thing[-1]]))


def all_openings(plan, standing):
    """The openings of all events that can be made."""
    return openings(plan, standing, len(standing[1]), plan.of_house.key_words)


def standing_behind(plan, standing, event):
    """The standing behind an event; None if it cannot be made."""
    if not is_event_form(event) or event[:-1] not in all_openings(plan, standing):
        return None
    draft = drafted(plan, standing, event[:-1], row_at(plan, standing, event[:-1]), event[-1])
    if draft.missed or tuple(draft.taken) != event[-1]:
        return None
    return frozen(draft)


def events_with(plan, standing, opening):
    """All events with this opening that can be made."""
    row = row_at(plan, standing, opening)
    found = []
    waiting = [()]
    while waiting:
        picks = waiting.pop()
        missed = drafted(plan, standing, opening, row, picks).missed
        if not missed:
            found.append((*opening, picks))
        waiting.extend([(*picks, phone) for phone in missed])
    return found
