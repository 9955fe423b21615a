"""Houses of wrong arguments: which error is raised, and what it tells."""

import unittest

from examples import OTHER_THINGS, PARTING_WORDS, HEARD_WORDS, SAMPLE_KEYS, SAMPLE_ROWS, SAMPLE_STANDS, TWO_STANDS
from holdhouse.errors import InvalidKeys, InvalidNumber, InvalidRows, InvalidStands
from holdhouse.houses import House

# No words: of no or nine letters, with other signs, or such as part the pieces of a row.
NO_WORDS = ("", "abcdefghi", "a" * 4000, "A", "aB", "a1", "1", "a b", " a", "a ", " ", "a\n", "\na", "\n", "a-b",
            "a_", "a.", "a,", "a:", "`", "{", "@", "[", "\u00e9", "a\u00e9", "\u0101", "\u03b1", "\uff41", "a\x00",
            ) + PARTING_WORDS
NO_TUPLES = tuple(thing for thing in OTHER_THINGS if not isinstance(thing, tuple)) + (0, 1, 2, "", "ab", "free quiet")


class Wrong(unittest.TestCase):
    def raises(self, kind, told, *values, **by_name):
        with self.assertRaises(kind) as caught:
            House(*values, **by_name)
        self.assertIs(type(caught.exception), kind)
        name = "given" if kind is InvalidNumber else "index"
        self.assertEqual(list(vars(caught.exception)), [name])
        found = getattr(caught.exception, name)
        self.assertIs(type(found), type(told))
        if kind is InvalidNumber:
            self.assertIs(found, told)
        else:
            self.assertEqual(found, told)


class Lines(Wrong):
    def test_wrong_numbers(self):
        for lines in (0, 4, -1, -3, 10, 10 ** 39, -10 ** 39):
            with self.subTest(lines=lines):
                self.raises(InvalidNumber, lines, lines, TWO_STANDS)

    def test_no_numbers(self):
        for lines in OTHER_THINGS + ("1", "", (), (1,), TWO_STANDS, House(1, TWO_STANDS)):
            with self.subTest(lines=lines):
                self.raises(InvalidNumber, lines, lines, TWO_STANDS)
                self.raises(InvalidNumber, lines, stands=TWO_STANDS, lines=lines)


class Stands(Wrong):
    def test_no_tuples(self):
        for stands in NO_TUPLES + (list(TWO_STANDS), dict(TWO_STANDS), House(1, TWO_STANDS)):
            with self.subTest(stands=stands):
                self.raises(InvalidStands, None, 1, stands)
                self.raises(InvalidStands, None, stands=stands, lines=1)

    def test_too_few_and_too_many(self):
        stands = tuple((word, "tone") for word in "abcdefgh")
        for many in (0, 1, 7, 8):
            self.raises(InvalidStands, None, 1, stands[:many])
        self.raises(InvalidStands, None, 1, ("x",))
        self.raises(InvalidStands, None, 1, ("x",) * 7)

    def test_something_else_at_any_index(self):
        stands = tuple((word, "tone") for word in "abcdef")
        for wrong in OTHER_THINGS + (0, 1, "x", "xy", "x tone", "", (), ("x",), ("x", "tone", "more"),
                                     ("x", "tone", None), ["x", "tone"], (("x", "tone"),), {"x": "tone"}):
            for at in range(6):
                with self.subTest(wrong=wrong, at=at):
                    self.raises(InvalidStands, at, 1, stands[:at] + (wrong,) + stands[at + 1:])

    def test_wrong_words(self):
        for word in NO_WORDS + OTHER_THINGS + (0, 1, (), ("x",)):
            for at in range(3):
                for pair in ((word, "tone"), ("x", word), (word, word)):
                    stands = [("a", "tone"), ("b", "tone"), ("c", "tone")]
                    stands[at] = pair
                    with self.subTest(pair=pair, at=at):
                        self.raises(InvalidStands, at, 1, tuple(stands))

    def test_wrong_sounds(self):
        for sound in HEARD_WORDS:
            for at in range(3):
                stands = [("a", "tone"), ("b", "tone"), ("c", "tone")]
                stands[at] = ("x", sound)
                with self.subTest(sound=sound, at=at):
                    self.raises(InvalidStands, at, 1, tuple(stands))

    def test_the_same_word_twice(self):
        self.raises(InvalidStands, 1, 1, (("a", "x"), ("a", "x")))
        self.raises(InvalidStands, 1, 1, (("a", "x"), ("a", "y")))
        self.raises(InvalidStands, 2, 1, (("a", "x"), ("b", "x"), ("a", "y")))
        self.raises(InvalidStands, 5, 1, tuple((word, "x") for word in "abcdec"))
        self.raises(InvalidStands, 2, 1, tuple((word, "x") for word in "abbaab"))

    def test_the_first_wrong_one_is_told(self):
        self.raises(InvalidStands, 1, 1, (("a", "x"), ("b", "over"), None))
        self.raises(InvalidStands, 1, 1, (("a", "x"), None, ("a", "x")))
        self.raises(InvalidStands, 0, 1, (["a"], ["a"]))


class Keys(Wrong):
    def test_no_tuples(self):
        for keys in NO_TUPLES + (["hold"], "hold", {"hold": 1}):
            with self.subTest(keys=keys):
                self.raises(InvalidKeys, None, 1, TWO_STANDS, keys)
                self.raises(InvalidKeys, None, keys=keys, lines=1, stands=TWO_STANDS)

    def test_too_many(self):
        self.raises(InvalidKeys, None, 1, TWO_STANDS, ("a", "b", "c", "d"))
        self.raises(InvalidKeys, None, 1, TWO_STANDS, ("a", "a", 1, "d"))

    def test_wrong_words(self):
        for wrong in NO_WORDS + OTHER_THINGS + (0, 1, (), ("a",), ("hold", "tone")):
            for at in range(3):
                keys = ["x", "y", "z"]
                keys[at] = wrong
                with self.subTest(wrong=wrong, at=at):
                    self.raises(InvalidKeys, at, 1, TWO_STANDS, tuple(keys))
            self.raises(InvalidKeys, 0, 1, TWO_STANDS, (wrong,))

    def test_the_same_word_twice(self):
        self.raises(InvalidKeys, 1, 1, TWO_STANDS, ("a", "a"))
        self.raises(InvalidKeys, 1, 1, TWO_STANDS, ("a", "a", "a"))
        self.raises(InvalidKeys, 2, 1, TWO_STANDS, ("a", "b", "a"))
        self.raises(InvalidKeys, 2, 1, TWO_STANDS, ("a", "b", "b"))

    def test_the_first_wrong_one_is_told(self):
        self.raises(InvalidKeys, 1, 1, TWO_STANDS, ("a", "a", None))
        self.raises(InvalidKeys, 1, 1, TWO_STANDS, ("a", None, "a"))
        self.raises(InvalidKeys, 0, 1, TWO_STANDS, ([], []))


class Rows(Wrong):
    def test_no_tuples(self):
        for rows in NO_TUPLES + (["gone: deaf"], "gone: deaf"):
            with self.subTest(rows=rows):
                self.raises(InvalidRows, None, 1, TWO_STANDS, (), rows)
                self.raises(InvalidRows, None, rows=rows, lines=1, stands=TWO_STANDS)

    def test_too_many(self):
        for row in ("gone: deaf", "", None):
            self.raises(InvalidRows, None, 1, TWO_STANDS, (), (row,) * 17)
        self.raises(InvalidRows, None, 1, TWO_STANDS, (), ("gone: deaf",) * 40)

    def test_something_else_at_any_index(self):
        for wrong in OTHER_THINGS + (0, 1, "", "gone", (), ("gone: deaf",), ["gone: deaf"], b"gone: deaf"):
            for at in range(16):
                rows = ["gone: deaf"] * 16
                rows[at] = wrong
                with self.subTest(wrong=wrong, at=at):
                    self.raises(InvalidRows, at, 1, TWO_STANDS, (), tuple(rows))

    def test_the_first_wrong_one_is_told(self):
        self.raises(InvalidRows, 1, 1, TWO_STANDS, (), ("gone: deaf", "x", None, "gone: deaf", "y"))

    def test_stands_and_keys_that_the_house_has_not(self):
        for at, row in enumerate(SAMPLE_ROWS):
            if row.startswith("key"):
                self.raises(InvalidRows, at, 1, SAMPLE_STANDS, ("x",), ("gone: deaf",) * at + (row,))
        self.raises(InvalidRows, 1, 1, SAMPLE_STANDS, (), SAMPLE_ROWS)
        self.raises(InvalidRows, 2, 1, SAMPLE_STANDS, ("take",), SAMPLE_ROWS)
        self.raises(InvalidRows, 0, 1, (("free", "ring"), ("talk", "ring")), SAMPLE_KEYS, SAMPLE_ROWS)
        self.raises(InvalidRows, 2, 1, SAMPLE_STANDS[:3], SAMPLE_KEYS, SAMPLE_ROWS)


class Order(Wrong):
    def test_the_first_in_the_order_of_the_signature(self):
        for lines in (0, True, None):
            for stands in (TWO_STANDS, (), ("x", "y"), None):
                for keys in ((), None, ("A",)):
                    for rows in ((), None, ("x",)):
                        self.raises(InvalidNumber, lines, lines, stands, keys, rows)
                        self.raises(InvalidNumber, lines, rows=rows, keys=keys, stands=stands, lines=lines)

    def test_stands_ahead_of_keys_and_rows(self):
        for stands, told in (((), None), (None, None), ((("a", "x"), "y"), 1)):
            for keys in ((), None, ("A",)):
                for rows in ((), None, ("x",)):
                    self.raises(InvalidStands, told, 1, stands, keys, rows)
                    self.raises(InvalidStands, told, rows=rows, keys=keys, stands=stands, lines=1)

    def test_keys_ahead_of_rows(self):
        for keys, told in ((None, None), (("a", "b", "c", "d"), None), (("a", "A"), 1)):
            for rows in ((), None, ("x",), ("gone: deaf",) * 17):
                self.raises(InvalidKeys, told, 1, TWO_STANDS, keys, rows)
                self.raises(InvalidKeys, told, rows=rows, keys=keys, stands=TWO_STANDS, lines=1)


class Unchanged(Wrong):
    def test_what_it_gets_stays_as_it_was(self):
        inner = ["a", ["tone"]]
        self.raises(InvalidNumber, inner, inner, TWO_STANDS)
        self.raises(InvalidStands, 1, 1, (("a", "x"), inner))
        self.raises(InvalidKeys, None, 1, TWO_STANDS, inner)
        self.raises(InvalidRows, 0, 1, TWO_STANDS, (), (inner,))
        self.assertEqual(inner, ["a", ["tone"]])

    def test_things_that_cannot_be_compared(self):
        class Odd:
            def __eq__(self, other):
                raise RuntimeError

            def __len__(self):
                raise RuntimeError

        odd = Odd()
        self.raises(InvalidNumber, odd, odd, TWO_STANDS)
        self.raises(InvalidStands, None, 1, odd)
        self.raises(InvalidStands, 1, 1, (("a", "x"), odd))
        self.raises(InvalidStands, 1, 1, (("a", "x"), (odd, "x")))
        self.raises(InvalidStands, 1, 1, (("a", "x"), ("b", odd)))
        self.raises(InvalidKeys, 0, 1, TWO_STANDS, (odd,))
        self.raises(InvalidKeys, 1, 1, TWO_STANDS, ("a", odd))
        self.raises(InvalidRows, 0, 1, TWO_STANDS, (), (odd,))


if __name__ == "__main__":
    unittest.main()
