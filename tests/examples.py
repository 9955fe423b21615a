"""Houses that several tests use, and a second account of what rows and texts are.

The second account is written with regular expressions and shares nothing with the program.
"""

import re

SAMPLE_STANDS = (("free", "quiet"), ("ring", "tone"), ("talk", "quiet"), ("held", "music"))
SAMPLE_KEYS = ("hold", "take")
SAMPLE_ROWS = (
    "call: a some, stand ring",
    "key take if in ring and me a: hear, stand talk",
    "key hold if in talk and me a: deaf, stand held",
    "key take if in held: a me, hear, stand talk",
    "lay if in talk and not joined: stand free",
    "gone: stand free",
)
SAMPLE_TEXT = """\
lines 1, keys hold take
stand free quiet
stand ring tone
stand talk quiet
stand held music
call: a some, stand ring
key take if in ring and me a: hear, stand talk
key hold if in talk and me a: deaf, stand held
key take if in held: a me, hear, stand talk
lay if in talk and not joined: stand free
gone: stand free"""

LOST_TEXT = """\
lines 1, keys hold take
stand free quiet
stand ring tone
stand talk quiet
stand held music
call: a some, stand ring
key take if in ring and me a: hear, stand talk
key hold if in talk and me a: deaf, a none, stand held
key take if in held and me a: hear, stand talk
lay if in talk and not joined: stand free
gone: stand free"""

JOINING_TEXT = """\
lines 2, keys take join
stand free quiet
stand ring tone
stand talk quiet
call: a some, stand ring
key take if in ring and me a: hear, stand talk
key join if busy: join
lay if in talk and not joined: stand free
gone: stand free"""

# Two lines on which callers can be held, taken back by anybody, and joined.
HOLDING_TEXT = """\
lines 2, keys take hold join
stand free quiet
stand ring tone
stand talk quiet
stand held music
call: a some, stand ring
key take if in ring and me a: hear, stand talk
key hold if in talk and me a: deaf, stand held
key take if in held: a me, hear, stand talk
key join if busy: join
lay if in talk and not joined: stand free
gone: stand free"""

TWO_STANDS = (("free", "quiet"), ("talk", "tone"))

# Words that rows are made of; all but and, if, not may be the names of stands and keys.
ROW_WORDS = ("call", "gone", "late", "lay", "key", "in", "caller", "joined", "a", "b", "ear", "me", "busy",
             "stand", "none", "some", "swap", "deaf", "part", "hear", "join", "lines", "keys",
             "voice", "stranger", "both", "over")
PARTING_WORDS = ("and", "if", "not")
HEARD_WORDS = ("voice", "stranger", "both", "over", "gone")

# Neither integers nor strings nor tuples, and such as look like one.
OTHER_THINGS = (None, True, False, b"a", b"", [], ["a"], {}, {"a": 1}, {"a"}, object(), int, len, ValueError("a"),
                range(2))


# Far too many shapes come with any number of phones.
MANY_SHAPES_TEXT = """\
lines 3, keys hold take join
stand free quiet
stand ring tone
stand talk quiet
stand held music
call: a some, stand ring
key hold: a me, stand held
key take: b me, hear, stand talk
key join: hear, join
late: a none, stand ring
gone: deaf"""

# With 1, 2, .., 6 phones come 385, 1789, 2821, 3001, 3001 and 3001 shapes.
ONE_SHAPE_TOO_MANY_TEXT = """\
lines 2, keys hold take
stand free tone
stand ring tone
stand talk music
stand held quiet
stand park tone
call: stand talk
key take: a me
key take: b some, join, hear
late: deaf, stand held, a none
key hold: swap, stand ring, b me, hear
key hold: join
lay: b me, stand talk
key take if in park and me b: b me, a none, hear, join
gone if joined and not caller: stand free, stand talk
lay if not me a: stand held, stand park, a some"""

# With 1, 2, .., 8 phones come 801, 2430, 3001, 2978, 2975, 2976, 2976 and 2976 shapes.
TOO_MANY_WITH_THREE_TEXT = """\
lines 3, keys hold take join
stand free tone
stand ring quiet
stand talk tone
stand held tone
stand park music
stand wait tone
call: b some, stand talk
key hold if not in wait and in ring: stand free, stand held, b me
key join if in talk: stand wait
key take if me b: a me, join
gone: stand ring
key join if in free and joined: b me, part, stand park, stand free
key hold if not in park and in talk: stand talk
key take if in held and busy: stand ring, hear, a some, a me
gone if b: stand wait, a some, a none, stand ring
lay: stand talk, stand ring, stand wait"""

# With 1, 2, .., 8 phones come 717, 1875, 2975, 2998, 2293, 1541, 1046 and 896 shapes.
JUST_FEW_ENOUGH_TEXT = """\
lines 3, keys hold take
stand free quiet
stand ring tone
stand talk music
stand held tone
call: b some, stand held
key take: b some, stand talk, hear
key hold: stand free, stand talk, join, join
call if not ear a and in held: a none
key take: stand free, stand talk, stand talk
gone if not in talk: a some, stand ring, swap
lay if joined and caller: b none, b me, a me, stand held
key take if caller and in held: a none, hear, stand talk
late if ear b: stand talk"""


def row_pattern(stands, keys):
    """What fits the rows of a house with these words of stands and these keys, as a regular expression."""
    stand = "(?:" + "|".join(stands) + ")"
    line_condition = f"in {stand}|caller|joined|a|b|ear a|ear b"
    line_deed = f"stand {stand}|[ab] none|[ab] some|swap|deaf|part"
    kinds = [("(?:call|gone|late)", line_condition, line_deed),
             ("lay", line_condition + "|me a|me b|busy", line_deed + "|[ab] me")]
    if keys:
        kinds.append(("key (?:" + "|".join(keys) + ")", line_condition + "|me a|me b|busy",
                      line_deed + "|[ab] me|hear|join"))
    choices = []
    for occasion, condition, deed in kinds:
        one = f"(?:not )?(?:{condition})"
        choices.append(f"{occasion}(?: if {one}(?: and {one}){{0,3}})?: (?:{deed})(?:, (?:{deed})){{0,3}}")
    return re.compile("|".join(f"(?:{choice})" for choice in choices))


def word_fits(word):
    return re.fullmatch("[a-z]{1,8}", word) is not None and word not in PARTING_WORDS


def first_line_fits(piece):
    """The keys of a first line; None if it is no such line."""
    found = re.fullmatch("lines [123](?:, keys ([a-z]+(?: [a-z]+){0,2}))?", piece)
    if not found:
        return None
    keys = found.group(1).split(" ") if found.group(1) else []
    return keys if all(map(word_fits, keys)) and len(set(keys)) == len(keys) else None


def stand_line_fits(piece, stands):
    found = re.fullmatch("stand ([a-z]+) ([a-z]+)", piece)
    return (found is not None and word_fits(found.group(1)) and word_fits(found.group(2))
            and found.group(1) not in stands and found.group(2) not in HEARD_WORDS)


def first_wrong_line(text):
    """The index that WrongLine tells for a text; None if it is the text of a house."""
    pieces = text.split("\n")
    keys = first_line_fits(pieces[0])
    if keys is None:
        return 0
    stands, at = [], 1
    while at < len(pieces) and len(stands) < 6 and stand_line_fits(pieces[at], stands):
        stands.append(pieces[at].split(" ")[1])
        at += 1
    if len(stands) < 2:
        return at
    pattern = row_pattern(stands, keys)
    first_row = at
    while at < len(pieces):
        if at - first_row == 16 or not pattern.fullmatch(pieces[at]):
            return at
        at += 1
    return None


def bent(text, signs):
    """All strings that one sign left out, put in, doubled, or exchanged makes of a text."""
    for at in range(len(text)):
        yield text[:at] + text[at + 1:]
        yield text[:at] + text[at] + text[at:]
        if at:
            yield text[:at - 1] + text[at] + text[at - 1] + text[at + 1:]
        for sign in signs:
            yield text[:at] + sign + text[at:]
            yield text[:at] + sign + text[at + 1:]
    for sign in signs:
        yield text + sign
