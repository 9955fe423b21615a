"""Drafts: standings while an event changes them, and the deeds that do so."""

from holdhouse.standings import CALLER, MATE, PLACE_A, PLACE_B, STAND, loose_phones


class Draft:
    """A standing, while an event changes it."""

    def __init__(self, standing, line, presser, picks):
        lines, ears = standing
        self.records = [list(record) for record in lines]
        self.hearers = list(ears)
        self.at = line
        # The phone whose key or lay it is, or None.
        self.presser = presser
        # With None for the picks, the least loose phone comes each time.
        self.picks = picks
        self.taken = []
        # The phones that could come where the picks name none of them.
        self.missed = []
        self.done_row = None


def frozen(draft):
    """The standing that the draft has come to."""
    return tuple([tuple(line) for line in draft.records]), tuple(draft.hearers)


def set_stand(draft, word):
    """The stand is this word from now on."""
    draft.records[draft.at][STAND] = word


def fill_a(draft, who):
    """Nobody, any phone or the presser comes to the place a."""
    fill(draft, PLACE_A, PLACE_B, who)


def fill_b(draft, who):
    """Nobody, any phone or the presser comes to the place b."""
    fill(draft, PLACE_B, PLACE_A, who)


def fill(draft, place, other, who):
    """Nobody, any phone or the presser comes to the place, and leaves the other one."""
    phone = None
    if who == "me":
        phone = draft.presser
    elif who == "some":
        phone = coming_phone(draft)
    line = draft.records[draft.at]
    if line[other] == phone:
        line[other] = None
    line[place] = phone


def coming_phone(draft):
    """The loose phone that comes; None if there is none, or if the picks do not name one."""
    loose = [phone for phone in loose_phones(draft.records, draft.hearers) if phone != draft.presser]
    if not loose:
        return None
    turn = len(draft.taken)
    phone = loose[0]
    if draft.picks is not None:
        if turn == len(draft.picks) or draft.picks[turn] not in loose:
            draft.missed = loose
            return None
        phone = draft.picks[turn]
    draft.taken.append(phone)
    return phone


def swap_places(draft, rest):
    """The phones at the two places change places."""
    line = draft.records[draft.at]
    line[PLACE_A], line[PLACE_B] = line[PLACE_B], line[PLACE_A]


def deafen_line(draft, rest):
    """No phone hears the line any more."""
    draft.hearers = [None if ear == draft.at else ear for ear in draft.hearers]


def part_mates(draft, rest):
    """The line and its mate are no mates any more."""
    mate = draft.records[draft.at][MATE]
    if mate is not None:
        draft.records[draft.at][MATE] = None
        draft.records[mate][MATE] = None


def let_hear(draft, rest):
    """The presser hears the line and no other one, if it is at a place of it."""
    line = draft.records[draft.at]
    if draft.presser in (line[PLACE_A], line[PLACE_B]):
        draft.hearers[draft.presser] = draft.at


def join_lines(draft, rest):
    """The line and another one that the presser hears become mates, if neither has one."""
    other = draft.hearers[draft.presser]
    if other is None or other == draft.at:
        return
    if draft.records[other][MATE] is None and draft.records[draft.at][MATE] is None:
        draft.records[other][MATE] = draft.at
        draft.records[draft.at][MATE] = other


def clear_line(draft):
    """The line loses its caller, its phones and its mate."""
    part_mates(draft, "")
    line = draft.records[draft.at]
    line[CALLER] = False
    line[PLACE_A] = None
    line[PLACE_B] = None
    drop_hearers(draft)


def drop_hearers(draft):
    """A phone that is at no place of the line does not hear it any more."""
    at = draft.at
    if at in draft.hearers:
        line = draft.records[at]
        here = (line[PLACE_A], line[PLACE_B])
        draft.hearers = [None if ear == at and phone not in here else ear for phone, ear in enumerate(draft.hearers)]


ACTIONS = {
    "stand": set_stand,
    "a": fill_a,
    "b": fill_b,
    "swap": swap_places,
    "deaf": deafen_line,
    "part": part_mates,
    "hear": let_hear,
    "join": join_lines,
}


def do_deeds(draft, deeds):
    """Do the deeds one behind the other, up to one for which a pick is missing."""
    for word, rest in deeds:
        action = ACTIONS[word]
        action(draft, rest)
        drop_hearers(draft)
        if draft.missed:
            return
