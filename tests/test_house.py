"""Houses that are made rightly: properties, length, truth, text, equality."""

import unittest
from unittest import mock

from examples import SAMPLE_KEYS, SAMPLE_ROWS, SAMPLE_STANDS, SAMPLE_TEXT, TWO_STANDS
from holdhouse import houses
from holdhouse.houses import House


def sample():
    return House(1, SAMPLE_STANDS, SAMPLE_KEYS, SAMPLE_ROWS)


class Twin:
    """Not a house, whatever it looks like."""

    def __init__(self, house):
        self.lines = house.lines
        self.stands = house.stands
        self.key_words = house.key_words
        self.rows = house.rows
        self.text = str(house)

    def __str__(self):
        return self.text


class Made(unittest.TestCase):
    def shows(self, house, lines, stands, keys, rows):
        self.assertEqual(house.lines, lines)
        self.assertIs(type(house.lines), int)
        self.assertEqual(house.stands, stands)
        self.assertEqual(house.key_words, keys)
        self.assertEqual(house.rows, rows)
        self.assertEqual(len(house), len(rows))

    def test_defined_in_its_file(self):
        self.assertEqual(House.__module__, "holdhouse.houses")
        for name in ("__init__", "read", "lines", "stands", "key_words", "rows", "changed", "without",
                     "__len__", "__bool__", "__eq__", "__str__", "__repr__"):
            self.assertIn(name, vars(House))
        for name in ("lines", "stands", "key_words", "rows"):
            self.assertIsInstance(vars(House)[name], property)
        self.assertIs(houses.House, House)

    def test_by_position(self):
        self.shows(sample(), 1, SAMPLE_STANDS, SAMPLE_KEYS, SAMPLE_ROWS)

    def test_by_name(self):
        house = House(rows=SAMPLE_ROWS, keys=SAMPLE_KEYS, stands=SAMPLE_STANDS, lines=1)
        self.shows(house, 1, SAMPLE_STANDS, SAMPLE_KEYS, SAMPLE_ROWS)
        self.assertEqual(house, sample())

    def test_partly_by_name(self):
        self.assertEqual(House(1, SAMPLE_STANDS, rows=SAMPLE_ROWS, keys=SAMPLE_KEYS), sample())

    def test_what_may_be_left_out(self):
        self.shows(House(2, TWO_STANDS), 2, TWO_STANDS, (), ())
        self.shows(House(stands=TWO_STANDS, lines=2), 2, TWO_STANDS, (), ())
        self.shows(House(3, TWO_STANDS, ("hold",)), 3, TWO_STANDS, ("hold",), ())
        self.shows(House(3, TWO_STANDS, rows=("gone: deaf",)), 3, TWO_STANDS, (), ("gone: deaf",))
        self.assertEqual(House(2, TWO_STANDS), House(2, TWO_STANDS, (), ()))

    def test_each_number_of_lines(self):
        for lines in (1, 2, 3):
            self.assertEqual(House(lines, TWO_STANDS).lines, lines)

    def test_each_number_of_stands(self):
        stands = (("a", "x"), ("b", "x"), ("c", "x"), ("d", "y"), ("e", "y"), ("f", "f"))
        for many in range(2, 7):
            self.assertEqual(House(1, stands[:many]).stands, stands[:many])

    def test_each_number_of_keys(self):
        keys = ("z", "a", "m")
        for many in range(4):
            self.assertEqual(House(1, TWO_STANDS, keys[:many]).key_words, keys[:many])

    def test_each_number_of_rows(self):
        for many in range(17):
            rows = ("gone: stand free",) * many
            house = House(1, TWO_STANDS, (), rows)
            self.assertEqual(house.rows, rows)
            self.assertEqual(len(house), many)

    def test_stands_keys_and_sounds_may_share_words(self):
        stands = (("free", "free"), ("hold", "free"), ("take", "hold"))
        house = House(1, stands, ("hold", "free"))
        self.assertEqual(str(house), "lines 1, keys hold free\nstand free free\nstand hold free\nstand take hold")

    def test_longest_and_shortest_words(self):
        stands = (("a", "z"), ("abcdwxyz", "zyxwdcba"))
        self.assertEqual(House(1, stands, ("q", "qqqqqqqq")).key_words, ("q", "qqqqqqqq"))

    def test_words_that_callers_hear_may_be_stands_and_keys(self):
        words = ("voice", "stranger", "both", "over", "gone")
        self.assertEqual(House(1, tuple((word, "tone") for word in words)).stands[4], ("gone", "tone"))
        self.assertEqual(House(1, TWO_STANDS, words[:3]).key_words, words[:3])
        self.assertEqual(House(1, TWO_STANDS, words[3:]).key_words, words[3:])

    def test_what_it_gets_stays_as_it_was(self):
        stands, keys, rows = (("free", "x"), ("talk", "y")), ("hold",), ("call: stand talk",)
        house = House(1, stands, keys, rows)
        house.changed(0, "gone: deaf")
        house.without(0)
        self.assertEqual((stands, keys, rows), ((("free", "x"), ("talk", "y")), ("hold",), ("call: stand talk",)))
        self.shows(house, 1, stands, keys, rows)

    def test_properties_are_tuples_and_stay(self):
        house = sample()
        for name in ("stands", "key_words", "rows"):
            self.assertIs(type(getattr(house, name)), tuple)
        for name in ("lines", "stands", "key_words", "rows"):
            with self.assertRaises(AttributeError):
                setattr(house, name, ())
        self.assertEqual(house, sample())


class Shown(unittest.TestCase):
    def test_truth(self):
        self.assertIs(bool(sample()), True)
        self.assertIs(bool(House(1, TWO_STANDS)), True)
        self.assertEqual(len(House(1, TWO_STANDS)), 0)

    def test_text(self):
        self.assertEqual(str(sample()), SAMPLE_TEXT)
        self.assertEqual(f"{sample()}", SAMPLE_TEXT)

    def test_text_without_keys_and_rows(self):
        self.assertEqual(str(House(2, TWO_STANDS)), "lines 2\nstand free quiet\nstand talk tone")
        self.assertEqual(str(House(2, TWO_STANDS, (), ("gone: part",))),
                         "lines 2\nstand free quiet\nstand talk tone\ngone: part")

    def test_text_with_one_key_and_with_three(self):
        self.assertEqual(str(House(3, TWO_STANDS, ("x",))), "lines 3, keys x\nstand free quiet\nstand talk tone")
        self.assertEqual(str(House(1, TWO_STANDS, ("c", "a", "b"))),
                         "lines 1, keys c a b\nstand free quiet\nstand talk tone")

    def test_repr(self):
        self.assertEqual(repr(sample()), "House of 6 rows")
        self.assertEqual(repr(House(1, TWO_STANDS)), "House of 0 rows")
        self.assertEqual(repr(House(1, TWO_STANDS, (), ("gone: part",))), "House of 1 rows")
        self.assertEqual(repr(House(1, TWO_STANDS, (), ("gone: part",) * 16)), "House of 16 rows")


class Equality(unittest.TestCase):
    def same(self, one, other):
        self.assertIs(one == other, True)
        self.assertIs(one != other, False)

    def differs(self, one, other):
        self.assertIs(one == other, False)
        self.assertIs(one != other, True)

    def test_equal_houses(self):
        house = sample()
        self.same(house, house)
        self.same(house, sample())
        self.same(house, House.read(SAMPLE_TEXT))
        self.same(House(1, TWO_STANDS), House(1, TWO_STANDS))

    def test_other_houses(self):
        house = sample()
        others = [
            House(2, SAMPLE_STANDS, SAMPLE_KEYS, SAMPLE_ROWS),
            House(1, SAMPLE_STANDS[:3] + (("held", "tone"),), SAMPLE_KEYS, SAMPLE_ROWS),
            House(1, SAMPLE_STANDS + (("more", "tone"),), SAMPLE_KEYS, SAMPLE_ROWS),
            House(1, SAMPLE_STANDS[1:] + SAMPLE_STANDS[:1], SAMPLE_KEYS, SAMPLE_ROWS),
            House(1, SAMPLE_STANDS, ("take", "hold"), SAMPLE_ROWS),
            House(1, SAMPLE_STANDS, ("hold", "take", "join"), SAMPLE_ROWS),
            House(1, SAMPLE_STANDS, SAMPLE_KEYS, SAMPLE_ROWS[:5]),
            House(1, SAMPLE_STANDS, SAMPLE_KEYS, SAMPLE_ROWS[::-1]),
            House(1, SAMPLE_STANDS, SAMPLE_KEYS),
        ]
        for at, other in enumerate(others):
            with self.subTest(at=at):
                self.differs(house, other)
                self.differs(other, house)

    def test_houses_of_as_many_rows(self):
        one, other = [House(1, TWO_STANDS, (), (row,)) for row in ("gone: part", "gone: deaf")]
        self.differs(one, other)

    def test_things_of_other_kinds(self):
        house = sample()
        for thing in (None, True, False, 0, 1, 6, "", SAMPLE_TEXT, repr(house), b"", (), SAMPLE_ROWS, [], {}, set(),
                      House, object(), ValueError(SAMPLE_TEXT), Twin(house),
                      (1, SAMPLE_STANDS, SAMPLE_KEYS, SAMPLE_ROWS)):
            with self.subTest(thing=thing):
                self.differs(house, thing)
                self.differs(thing, house)

    def test_a_thing_that_says_it_is_equal(self):
        self.assertIs(sample() == mock.ANY, False)


if __name__ == "__main__":
    unittest.main()
