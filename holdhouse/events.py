"""Events: which ones can be made, and what stands behind them.

An opening is an event without its PICKS.
"""

from holdhouse.checks import is_integer
from holdhouse.drafts import Draft, clear_line, do_deeds, frozen
from holdhouse.standings import CALLER, PLACE_A, PLACE_B, STAND, line_facts


def openings(plan, standing, phones):
    """The openings of all events that can be made; those of keys and lays for the first so many phones alone."""
    lines, ears = standing
    found = []
    for at, line in enumerate(lines):
        found.append(("call" if plan.is_free(standing, at) else "late", at))
        if line[CALLER]:
            found.append(("gone", at))
    for phone in range(phones):
        if ears[phone] is not None:
            found.append(("lay", phone))
        for key in plan.of_house.key_words:
            for at in range(len(lines)):
                found.append(("key", key, phone, at))
    return found


def line_of(opening, ears):
    """The line that the event concerns."""
    if opening[0] == "lay":
        return ears[opening[1]]
    return opening[3] if opening[0] == "key" else opening[1]


def presser_of(opening):
    """The phone whose event it is, or None."""
    if opening[0] == "lay":
        return opening[1]
    return opening[2] if opening[0] == "key" else None


def occasion_of(opening):
    """The occasion of the rows for the event."""
    return "key " + opening[1] if opening[0] == "key" else opening[0]


def drafted(plan, standing, opening, picks):
    """The draft behind an event; what it misses is empty if the picks were enough."""
    draft = Draft(standing, line_of(opening, standing[1]), presser_of(opening), picks)
    come_or_go(draft, opening[0])
    row = plan.row_for(occasion_of(opening), row_facts(draft))
    if row is not None:
        index, conditions, deeds = row
        draft.done_row = index
        do_deeds(draft, deeds)
    # Only the line of the event can have come to its free stand, or got something there.
    if draft.records[draft.at][STAND] == plan.free_stand:
        clear_line(draft)
    return draft


def come_or_go(draft, kind):
    """What comes ahead of the rows: a caller comes or goes, or a phone hears nothing any more."""
    if kind == "call":
        draft.records[draft.at][CALLER] = True
    elif kind == "gone":
        draft.records[draft.at][CALLER] = False
    elif kind == "lay":
        draft.hearers[draft.presser] = None


def row_facts(draft):
    """The conditions that hold for the rows of the event."""
    facts = line_facts(draft.records, draft.hearers, draft.at)
    presser = draft.presser
    if presser is not None:
        line = draft.records[draft.at]
        if line[PLACE_A] == presser:
            facts["me a"] = True
        if line[PLACE_B] == presser:
            facts["me b"] = True
        if draft.hearers[presser] is not None and draft.hearers[presser] != draft.at:
            facts["busy"] = True
    return facts


def is_event_form(thing):
    """Whether it is a tuple of words and integers, with a tuple of integers behind them."""
    if not isinstance(thing, tuple) or not thing or not isinstance(thing[-1], tuple):
        return False
    return (all([isinstance(piece, str) or is_integer(piece) for piece in thing[:-1]])
            and all([is_integer(phone) for phone in thing[-1]]))


def standing_behind(plan, standing, event):
    """The standing behind an event; None if it cannot be made."""
    if not is_event_form(event) or event[:-1] not in openings(plan, standing, len(standing[1])):
        return None
    draft = drafted(plan, standing, event[:-1], event[-1])
    if draft.missed or tuple(draft.taken) != event[-1]:
        return None
    return frozen(draft)


def events_with(plan, standing, opening):
    """All events with this opening that can be made."""
    found = []
    waiting = [()]
    while waiting:
        picks = waiting.pop()
        missed = drafted(plan, standing, opening, picks).missed
        if not missed:
            found.append((*opening, picks))
        waiting.extend([(*picks, phone) for phone in missed])
    return found
