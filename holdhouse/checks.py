"""What the numbers, the words, the rows and the pictures of a house are like."""

from holdhouse.limits import MOST_CONDITIONS, MOST_DEEDS

LONGEST_WORD = 8
# These words part the pieces of a row, so a name like them could not be told from them.
PARTING_WORDS = ("and", "if", "not")
# A caller may hear these words without any sound of a stand.
HEARD_WORDS = ("voice", "stranger", "both", "over", "gone")

PLAIN_OCCASIONS = ("call", "gone", "late", "lay")
KEY_OPENING = "key "
LINE_CONDITIONS = ("caller", "joined", "a", "b", "ear a", "ear b")
PICTURE_CONDITIONS = ("voice", "stranger")
PHONE_CONDITIONS = ("me a", "me b", "busy")
STAND_CONDITION_OPENING = "in "
LINE_DEEDS = ("a none", "a some", "b none", "b some", "swap", "deaf", "part")
PHONE_DEEDS = ("a me", "b me")
KEY_DEEDS = ("hear", "join")
STAND_DEED_OPENING = "stand "


def is_integer(thing):
    """Whether it is an integer; True and False are none."""
    return isinstance(thing, int) and not isinstance(thing, bool)


def is_between(thing, least, most):
    """Whether it is an integer from the least to the most."""
    return is_integer(thing) and least <= thing <= most


def is_word(thing):
    """Whether a stand, a sound or a key may be called so."""
    if not isinstance(thing, str) or not 1 <= len(thing) <= LONGEST_WORD:
        return False
    return all(["a" <= sign <= "z" for sign in thing]) and thing not in PARTING_WORDS


def is_stand(thing):
    """Whether it is a pair of a stand and its sound."""
    if not isinstance(thing, tuple) or len(thing) != 2:
        return False
    return is_word(thing[0]) and is_word(thing[1]) and thing[1] not in HEARD_WORDS


def wrong_stand(stands):
    """The index of the first one that is no stand, or that was there before; None if all are right."""
    for at, pair in enumerate(stands):
        if not is_stand(pair) or pair[0] in stand_words(stands[:at]):
            return at
    return None


def stand_words(stands):
    """The words of these stands, without their sounds."""
    return tuple([pair[0] for pair in stands])


def wrong_key(keys):
    """The index of the first one that is no word, or that was there before; None if all are right."""
    for at, word in enumerate(keys):
        if not is_word(word) or word in keys[:at]:
            return at
    return None


def wrong_row(rows, stands, keys):
    """The index of the first one that is no row for these stands and keys; None if all are right."""
    for at, row in enumerate(rows):
        if not is_row(row, stands, keys):
            return at
    return None


def is_row(thing, stands, keys):
    """Whether it is the line of a row for these stands and keys."""
    if not isinstance(thing, str):
        return False
    occasion, conditions, deeds = row_parts(thing)
    if len(conditions) > MOST_CONDITIONS or len(deeds) > MOST_DEEDS or not is_occasion(occasion, keys):
        return False
    words = stand_words(stands)
    return (all([is_condition(condition, occasion, words) for condition in conditions])
            and all([is_deed(deed, occasion, words) for deed in deeds]))


def row_parts(row):
    """The occasion of a row, its conditions and its deeds, as they are written."""
    head, colon, tail = row.partition(": ")
    occasion, joint, rest = head.partition(" if ")
    # A row with " if " and nothing behind it has one empty condition, which is none.
    conditions = rest.split(" and ") if joint else []
    return occasion, conditions, tail.split(", ")


def is_occasion(text, keys):
    """Whether a row may begin so."""
    return text in PLAIN_OCCASIONS or names_one(text, KEY_OPENING, keys)


def is_condition(text, occasion, words):
    """Whether a row with this occasion may have this condition; `words` are those of the stands."""
    plain, wanted = condition_parts(text)
    if plain in PHONE_CONDITIONS:
        return has_phone(occasion)
    return is_line_condition(plain, words)


def condition_parts(text):
    """The condition without `not`, and whether it must hold."""
    if text.startswith("not "):
        return text[len("not "):], False
    return text, True


def is_line_condition(plain, words):
    """Whether a condition without `not` is about the line alone; `words` are those of the stands."""
    return plain in LINE_CONDITIONS or names_one(plain, STAND_CONDITION_OPENING, words)


def is_picture(thing, words):
    """Whether it is a picture of a house; `words` are those of its stands."""
    if not isinstance(thing, str):
        return False
    conditions = thing.split(" and ")
    return len(conditions) <= MOST_CONDITIONS and all([is_picture_condition(text, words) for text in conditions])


def is_picture_condition(text, words):
    """Whether a picture may have this condition; `words` are those of the stands."""
    plain, wanted = condition_parts(text)
    return plain in PICTURE_CONDITIONS or is_line_condition(plain, words)


def is_deed(text, occasion, words):
    """Whether a row with this occasion may have this deed; `words` are those of the stands."""
    if text in PHONE_DEEDS:
        return has_phone(occasion)
    if text in KEY_DEEDS:
        return has_key(occasion)
    return text in LINE_DEEDS or names_one(text, STAND_DEED_OPENING, words)


def has_phone(occasion):
    """Whether it is the event of a phone."""
    return occasion == "lay" or has_key(occasion)


def has_key(occasion):
    """Whether it is the event of a key."""
    return occasion.startswith(KEY_OPENING)


def names_one(text, opening, words):
    """Whether the text is this opening with one of these words behind it."""
    return text.startswith(opening) and text[len(opening):] in words
