"""Rows: what is the line of a row, and what is not."""

import itertools
import unittest

from examples import PARTING_WORDS, ROW_WORDS, SAMPLE_KEYS, SAMPLE_ROWS, SAMPLE_STANDS, bent, row_pattern
from holdhouse.errors import InvalidRows, WrongLine
from holdhouse.houses import House

STANDS = (("free", "quiet"), ("talk", "tone"), ("held", "music"))
KEYS = ("hold", "take")

LINE_OCCASIONS = ("call", "gone", "late")
KEY_OCCASIONS = ("key hold", "key take")
OCCASIONS = LINE_OCCASIONS + ("lay",) + KEY_OCCASIONS
PHONE_OCCASIONS = ("lay",) + KEY_OCCASIONS

# Each condition and each deed, and the occasions to which it belongs.
CONDITIONS = {
    "in free": OCCASIONS, "in talk": OCCASIONS, "in held": OCCASIONS,
    "caller": OCCASIONS, "joined": OCCASIONS, "a": OCCASIONS, "b": OCCASIONS, "ear a": OCCASIONS, "ear b": OCCASIONS,
    "me a": PHONE_OCCASIONS, "me b": PHONE_OCCASIONS, "busy": PHONE_OCCASIONS,
}
DEEDS = {
    "stand free": OCCASIONS, "stand talk": OCCASIONS, "stand held": OCCASIONS,
    "a none": OCCASIONS, "b none": OCCASIONS, "a some": OCCASIONS, "b some": OCCASIONS,
    "swap": OCCASIONS, "deaf": OCCASIONS, "part": OCCASIONS,
    "a me": PHONE_OCCASIONS, "b me": PHONE_OCCASIONS,
    "hear": KEY_OCCASIONS, "join": KEY_OCCASIONS,
}


class RowCase(unittest.TestCase):
    def is_row(self, row, stands=STANDS, keys=KEYS):
        try:
            house = House(1, stands, keys, ("gone: deaf", row))
        except InvalidRows as error:
            self.assertEqual(error.index, 1)
            return False
        self.assertEqual(house.rows, ("gone: deaf", row))
        return True

    def good(self, *rows, stands=STANDS, keys=KEYS):
        for row in rows:
            with self.subTest(row=row):
                self.assertIs(self.is_row(row, stands, keys), True)

    def bad(self, *rows, stands=STANDS, keys=KEYS):
        for row in rows:
            with self.subTest(row=row):
                self.assertIs(self.is_row(row, stands, keys), False)


class Occasions(RowCase):
    def test_each_occasion(self):
        self.good(*[f"{occasion}: deaf" for occasion in OCCASIONS])
        self.good(*[f"{occasion} if caller: deaf" for occasion in OCCASIONS])

    def test_no_occasions(self):
        for occasion in ("", "calls", "cal", "Call", "CALL", "key", "key ", "keys hold", "key: hold", "hold",
                         "key hold take", "key  hold", "key hold ", " call", "call ", "call gone", "go", "goes",
                         "not call", "in talk", "stand", "any", "lay hold", "call hold", "gone hold", "late hold"):
            self.bad(f"{occasion}: deaf", f"{occasion} if caller: deaf")

    def test_keys_that_the_house_has_not(self):
        self.bad("key join: deaf", "key ho: deaf", "key holds: deaf", "key free: deaf", "key talk: deaf",
                 "key a: deaf")
        self.bad("key hold: deaf", "key take: deaf", keys=())
        self.good("key take: deaf", keys=("take",))
        self.bad("key hold: deaf", keys=("take",))


class Conditions(RowCase):
    def test_each_condition_at_each_occasion(self):
        for occasion, (condition, belongs) in itertools.product(OCCASIONS, CONDITIONS.items()):
            for sign in ("", "not "):
                row = f"{occasion} if {sign}{condition}: deaf"
                with self.subTest(row=row):
                    self.assertIs(self.is_row(row), occasion in belongs)

    def test_each_condition_behind_another_one(self):
        for occasion, (condition, belongs) in itertools.product(OCCASIONS, CONDITIONS.items()):
            for sign in ("", "not "):
                row = f"{occasion} if in talk and {sign}{condition}: deaf"
                with self.subTest(row=row):
                    self.assertIs(self.is_row(row), occasion in belongs)

    def test_no_conditions(self):
        for condition in ("", "c", "in", "in ", "in quiet", "in ring", "in hold", "in talk held", "in  talk", "talk",
                          "not", "not ", "not not a", "not  a", "nota", "a not", "ear", "ear c", "ear  a", "eara",
                          "ear a b", "me", "me c", "mea", "busy a", "caller a", "joined b", "voice", "stranger",
                          "free", "Caller", "if a", "and a", "a and", "a or b", "a, b", "mate", "over", "hear"):
            self.bad(f"key hold if {condition}: deaf", f"key hold if a and {condition}: deaf",
                     f"key hold if {condition} and a: deaf")

    def test_how_many(self):
        for one in ("a", "not in talk", "me b"):
            for many in range(1, 5):
                self.good("key take if " + " and ".join([one] * many) + ": deaf")
            for many in range(5, 8):
                self.bad("key take if " + " and ".join([one] * many) + ": deaf")
        self.good("lay: deaf", "lay if a and not a and b and not ear b: deaf")
        self.bad("lay if a and not a and b and not ear b and joined: deaf")


class Deeds(RowCase):
    def test_each_deed_at_each_occasion(self):
        for occasion, (deed, belongs) in itertools.product(OCCASIONS, DEEDS.items()):
            for row in (f"{occasion}: {deed}", f"{occasion} if a: {deed}", f"{occasion}: swap, {deed}",
                        f"{occasion}: {deed}, swap"):
                with self.subTest(row=row):
                    self.assertIs(self.is_row(row), occasion in belongs)

    def test_no_deeds(self):
        for deed in ("", " ", "a", "b", "a you", "c none", "c me", "a  me", "me", "me a", "none", "some", "stand",
                     "stand ", "stand quiet", "stand ring", "stand hold", "stand talk held", "stand  talk", "talk",
                     "in talk", "not swap", "not stand talk", "Swap", "swap a", "swaps", "deaf a", "hear a", "ear a",
                     "join b", "joined", "part a", "parted", "caller", "busy", "over", "gone", "a none b none"):
            self.bad(f"key hold: {deed}", f"key hold: swap, {deed}", f"key hold: {deed}, swap")

    def test_how_many(self):
        for one in ("swap", "stand talk", "a some", "hear"):
            for many in range(1, 5):
                self.good("key take: " + ", ".join([one] * many))
            for many in range(5, 8):
                self.bad("key take: " + ", ".join([one] * many))
        self.bad("key take:", "key take: ", "key take if a:", "key take if a: ", "key take", "key take if a")

    def test_four_conditions_and_four_deeds(self):
        self.good("key hold if a and not b and in talk and busy: a me, b some, hear, stand held")
        self.good("call if a and not b and in talk and joined: a none, b some, part, stand held")


class Words(RowCase):
    def test_stands_that_the_house_has_not(self):
        for word in ("ring", "quiet", "tone", "music", "hold", "take", "fre", "freed", "Free", "a", "none", ""):
            self.bad(f"call if in {word}: deaf", f"call if not in {word}: deaf", f"call: stand {word}")

    def test_words_of_the_rows_as_names_of_stands(self):
        for word in ROW_WORDS:
            stands = (("free", "quiet"), (word, "tone"))
            self.good(f"call if in {word}: stand {word}", f"lay if not in {word} and in {word}: deaf, stand {word}",
                      f"gone if in {word}: stand free, stand {word}", stands=stands, keys=())
            self.bad(f"key {word}: deaf", f"call if in {word} {word}: deaf", f"call: stand {word} {word}",
                     stands=stands, keys=())

    def test_words_of_the_rows_as_names_of_keys(self):
        for word in ROW_WORDS:
            self.good(f"key {word}: deaf", f"key {word} if in free and not me a: hear, a me", keys=(word,))
            self.bad(f"key {word} {word}: deaf", f"key {word}s: deaf", f"{word} hold: deaf",
                     f"call if in {word}: deaf", f"call: stand {word}", keys=(word,))

    def test_the_same_word_as_stand_and_as_key(self):
        for word in ROW_WORDS:
            stands = (("free", "quiet"), (word, "tone"))
            self.good(f"key {word} if in {word}: stand {word}", stands=stands, keys=(word,))

    def test_stands_do_not_become_conditions_or_deeds(self):
        stands = (("free", "quiet"), ("a", "quiet"), ("me", "quiet"), ("none", "quiet"))
        self.bad("call if me: deaf", "call if me a: deaf", "call if in me a: deaf", "call: a", "call: a a",
                 "call: none", "call if ear me: deaf", "call: stand a none", stands=stands)

    def test_parting_words_are_no_names(self):
        for word in PARTING_WORDS:
            self.bad(f"key {word}: deaf", f"call if in {word}: deaf", f"call: stand {word}")


class Signs(RowCase):
    def test_left_out_doubled_or_put_elsewhere(self):
        self.bad(
            "call:stand talk", "call : stand talk", "call:  stand talk", "call stand talk", "call, stand talk",
            "call:: stand talk", "call: : stand talk", ": call stand talk", "call: stand: talk", "call; stand talk",
            " call: stand talk", "call: stand talk ", "call: stand talk,", "call: stand talk, ", "call: , stand talk",
            "call: stand talk,deaf", "call: stand talk , deaf", "call: stand talk,  deaf", "call: stand talk deaf",
            "call: stand talk,, deaf", "call: stand talk, , deaf", "call: stand talk and deaf", "call, : stand talk",
            "call if: stand talk", "call if : stand talk", "call  if a: deaf", "call if  a: deaf", "call ifa: deaf",
            "callif a: deaf", "call a: deaf", "call if if a: deaf", "call if a if b: deaf", "if a: deaf",
            "if call a: deaf", "if a call: deaf", "call a if: deaf", "call: deaf if a", "call: if a, deaf",
            "call if a and: deaf", "call if and a: deaf", "call if a and and b: deaf", "call if a  and b: deaf",
            "call if a and  b: deaf", "call if a b: deaf", "call if a, b: deaf", "call if a andb: deaf",
            "call if aand b: deaf", "call and a: deaf", "call and if a: deaf", "call if a: and deaf",
            "call if a and if b: deaf", "call if not: deaf", "call if not and a: deaf", "call not if a: deaf",
            "not call if a: deaf", "call if a: deaf\n", "\ncall if a: deaf", "call\nif a: deaf", "call if a:\ndeaf",
            "call if a: deaf, deaf: deaf", "call if a: deaf: deaf", "call if a: deaf; deaf", "CALL: deaf",
            "call: deaf, call: deaf", "call: deaf\ncall: deaf", "call\t: deaf", "call: stand\ttalk", "call:\u00a0deaf",
            "call if a\u00a0and b: deaf", "", " ", ":", ": ", "if", " if : ", "\n", "x" * 4000,
        )

    def test_every_bent_row(self):
        pattern = row_pattern(["free", "talk", "held"], KEYS)
        rows = ("call: stand talk", "gone if a: deaf, swap", "lay if not in held and me a: a me",
                "key take if in free and not b and busy and ear a: b some, hear, join, part")
        for row in rows:
            for other in bent(row, " ,:\nabi"):
                self.assertIs(self.is_row(other), pattern.fullmatch(other) is not None, other)

    def test_pieces_left_out_doubled_and_exchanged(self):
        pattern = row_pattern(["free", "talk", "held"], KEYS)
        row = "key hold if not in talk and me a : a me , stand held"
        pieces = row.split(" ")
        for some in ([*pieces[:at], *pieces[at + 1:]] for at in range(len(pieces))):
            self.fits(some, pattern)
        for at, other in itertools.product(range(len(pieces)), repeat=2):
            self.fits([*pieces[:at], pieces[other], *pieces[at:]], pattern)
            exchanged = list(pieces)
            exchanged[at], exchanged[other] = pieces[other], pieces[at]
            self.fits(exchanged, pattern)

    def fits(self, pieces, pattern):
        row = " ".join(pieces).replace(" :", ":").replace(" ,", ",")
        self.assertIs(self.is_row(row), pattern.fullmatch(row) is not None, row)


class SampleRows(RowCase):
    def test_rows_of_the_document(self):
        self.good(*SAMPLE_ROWS, stands=SAMPLE_STANDS, keys=SAMPLE_KEYS)
        self.good("key hold if in talk and me a: deaf, a none, stand held",
                  "key take if in held and me a: hear, stand talk", "key take if not in free: a me, hear, stand talk",
                  stands=SAMPLE_STANDS, keys=SAMPLE_KEYS)
        self.good("call: a some, stand ring", "key take if in ring and me a: hear, stand talk",
                  "key join if busy: join", "lay if in talk and not joined: stand free", "gone: stand free",
                  stands=SAMPLE_STANDS[:3], keys=("take", "join"))

    def test_read_and_changed_say_the_same(self):
        house = House(1, STANDS, KEYS, ("gone: deaf",))
        for row in ("call if me a: deaf", "call: hear", "lay: join", "key hold if a: b me", "gone: a some", "late: x",
                    "lay if busy: b me", "call if a and a and a and a and a: deaf"):
            right = self.is_row(row)
            with self.subTest(row=row):
                if right:
                    self.assertEqual(house.changed(0, row).rows, (row,))
                    self.assertEqual(House.read(f"{house}\n{row}").rows, ("gone: deaf", row))
                else:
                    with self.assertRaises(InvalidRows):
                        house.changed(0, row)
                    with self.assertRaises(WrongLine):
                        House.read(f"{house}\n{row}")


if __name__ == "__main__":
    unittest.main()
