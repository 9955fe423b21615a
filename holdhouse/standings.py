"""Standings: how all lines and phones of a house stand at a moment.

A standing is a pair (lines, ears). `lines` has for each line a tuple (stand, caller, a, b, mate), `ears` has for
each phone the line that it hears, or None. So a shape is a standing too, that of its numbered phones.
"""

STAND = 0
CALLER = 1
PLACE_A = 2
PLACE_B = 3
MATE = 4


def beginning(free_stand, lines, phones):
    """The standing in the beginning of a house with so many lines and phones."""
    return ((free_stand, False, None, None, None),) * lines, (None,) * phones


def with_loose(shape, phones):
    """The standing with this shape in which the numbered phones come first, and loose ones behind them."""
    lines, ears = shape
    return lines, ears + (None,) * (phones - len(ears))


def placed_phones(lines):
    """The phones that are at places, as they come first."""
    placed = []
    for stand, caller, a, b, mate in lines:
        if a is not None and a not in placed:
            placed.append(a)
        if b is not None and b not in placed:
            placed.append(b)
    return placed


def loose_phones(lines, ears):
    """The phones that are at no place, ascending."""
    placed = placed_phones(lines)
    return [phone for phone in range(len(ears)) if phone not in placed]


def shape_of(standing):
    """The shape of a standing."""
    lines, ears = standing
    placed = placed_phones(lines)
    if placed == list(range(len(placed))):
        return tuple([tuple(line) for line in lines]), tuple(ears[:len(placed)])
    numbers = {phone: number for number, phone in enumerate(placed)}
    numbered = [(stand, caller, None if a is None else numbers[a], None if b is None else numbers[b], mate)
                for stand, caller, a, b, mate in lines]
    return tuple(numbered), tuple([ears[phone] for phone in placed])


def in_order(shape, order):
    """The shape with the lines of this one in another order."""
    lines, ears = shape
    moved = []
    for line in order:
        stand, caller, a, b, mate = lines[line]
        moved.append((stand, caller, a, b, None if mate is None else order.index(mate)))
    return shape_of((moved, [None if ear is None else order.index(ear) for ear in ears]))


def has_voice(standing, at):
    """Whether a phone hears the line or its mate."""
    lines, ears = standing
    mate = lines[at][MATE]
    return at in ears or (mate is not None and mate in ears)


def has_stranger(standing, at):
    """Whether the mate of the line has a caller."""
    lines, ears = standing
    mate = lines[at][MATE]
    return mate is not None and lines[mate][CALLER]


def calls_away(ahead, behind, presser):
    """Whether somebody else than the presser is called away, if one standing comes behind the other."""
    lines_behind, ears_behind = behind
    lines, ears = ahead
    for phone, at in enumerate(ears):
        if at is not None and phone != presser and ears_behind[phone] != at:
            if lines[at][CALLER] and lines_behind[at][CALLER]:
                return True
    return False
