"""Drafts: standings while an event changes them, and the deeds that do so."""

from holdhouse.standings import CALLER, MATE, PLACE_A, PLACE_B, STAND, loose_phones

PLACES = {"a": PLACE_A, "b": PLACE_B}


class Draft:
    """A standing, while an event changes it."""

    def __init__(self, standing, line, presser, picks):
        lines, ears = standing
        self.at = line
        self.records = list(lines)
        # The line of the event; of the other lines no more than the mate ever changes.
        self.own = list(lines[line])
        self.records[line] = self.own
        self.hearers = list(ears)
        # The phone whose key or lay it is, or None.
        self.presser = presser
        # With None for the picks, the least loose phone comes each time.
        self.picks = picks
        self.taken = []
        # The phones that could come where the picks name none of them.
        self.missed = []


def frozen(draft):
    """The standing that the draft has come to."""
    return tuple([tuple(line) for line in draft.records]), tuple(draft.hearers)


def deed_parts(text):
    """The word of an action for the deed, and what the action needs to know besides."""
    word, blank, rest = text.partition(" ")
    return (rest, PLACES[word]) if word in PLACES else (word, rest)


def set_stand(draft, word):
    """The stand is this word from now on."""
    draft.own[STAND] = word


def empty_place(draft, place):
    """The place is emptied."""
    take_place(draft, place, None)


def bring_some(draft, place):
    """Any loose phone comes to the place."""
    take_place(draft, place, coming_phone(draft))


def bring_presser(draft, place):
    """The presser comes to the place."""
    take_place(draft, place, draft.presser)


def take_place(draft, place, phone):
    """The phone, or nobody, comes to the place, and leaves the other one."""
    other = PLACE_B if place == PLACE_A else PLACE_A
    if draft.own[other] == phone:
        draft.own[other] = None
    draft.own[place] = phone
    drop_hearers(draft)


def coming_phone(draft):
    """The loose phone that comes; None if there is none, or if the picks do not name one."""
    loose = [phone for phone in loose_phones(draft.records, draft.hearers) if phone != draft.presser]
    if not loose:
        return None
    turn = len(draft.taken)
    phone = loose[0]
    if draft.picks is not None:
        if turn == len(draft.picks) or draft.picks[turn] not in loose:
            draft.missed = loose
            return None
        phone = draft.picks[turn]
    draft.taken.append(phone)
    return phone


def swap_places(draft, rest):
    """The phones at the two places change places."""
    draft.own[PLACE_A], draft.own[PLACE_B] = draft.own[PLACE_B], draft.own[PLACE_A]


def deafen_line(draft, rest):
    """No phone hears the line any more."""
    draft.hearers = [None if ear == draft.at else ear for ear in draft.hearers]


def part_mates(draft, rest):
    """The line and its mate are no mates any more."""
    mate = draft.own[MATE]
    if mate is not None:
        draft.own[MATE] = None
        draft.records[mate] = (*draft.records[mate][:MATE], None)


def let_hear(draft, rest):
    """The presser hears the line and no other one, if it is at a place of it."""
    if draft.presser in (draft.own[PLACE_A], draft.own[PLACE_B]):
        draft.hearers[draft.presser] = draft.at


def join_lines(draft, rest):
    """The line and another one that the presser hears become mates, if neither has one."""
    other = draft.hearers[draft.presser]
    if other is None or other == draft.at:
        return
    if draft.records[other][MATE] is None and draft.own[MATE] is None:
        draft.records[other] = (*draft.records[other][:MATE], draft.at)
        draft.own[MATE] = other


def clear_line(draft):
    """The line loses its caller, its phones and its mate."""
    part_mates(draft, "")
    draft.own[CALLER] = False
    draft.own[PLACE_A] = None
    draft.own[PLACE_B] = None
    drop_hearers(draft)


def drop_hearers(draft):
    """A phone that is at no place of the line does not hear it any more."""
    at = draft.at
    if at in draft.hearers:
        here = (draft.own[PLACE_A], draft.own[PLACE_B])
        draft.hearers = [None if ear == at and phone not in here else ear for phone, ear in enumerate(draft.hearers)]


ACTIONS = {
    "stand": set_stand,
    "none": empty_place,
    "some": bring_some,
    "me": bring_presser,
    "swap": swap_places,
    "deaf": deafen_line,
    "part": part_mates,
    "hear": let_hear,
    "join": join_lines,
}


def do_deeds(draft, deeds):
    """Do the deeds one behind the other, up to one for which a pick is missing."""
    for word, rest in deeds:
        action = ACTIONS[word]
        action(draft, rest)
        if draft.missed:
            return
