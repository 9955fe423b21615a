"""Three houses to try things on."""

from holdhouse.houses import House

SAMPLE_TEXT = """lines 1, keys hold take
stand free quiet
stand ring tone
stand talk quiet
stand held music
call: a some, stand ring
key take if in ring and me a: hear, stand talk
key hold if in talk and me a: deaf, stand held
key take if in held: a me, hear, stand talk
lay if in talk and not joined: stand free
gone: stand free"""

# Whoever puts a caller on hold leaves the place, and so nobody can take the caller back.
LOST_HOLD_ROW = "key hold if in talk and me a: deaf, a none, stand held"
LOST_TAKE_ROW = "key take if in held and me a: hear, stand talk"

JOINING_TEXT = """lines 2, keys take join
stand free quiet
stand ring tone
stand talk quiet
call: a some, stand ring
key take if in ring and me a: hear, stand talk
key join if busy: join
lay if in talk and not joined: stand free
gone: stand free"""


def sample_house():
    """A house of one line: callers ring, are taken, held, and taken back by any phone."""
    return House.read(SAMPLE_TEXT)


def lost_house():
    """The sample house with a hold from which nobody can take the caller back."""
    return sample_house().changed(2, LOST_HOLD_ROW).changed(3, LOST_TAKE_ROW)


def joining_house():
    """A house of two lines that a phone can join."""
    return House.read(JOINING_TEXT)
