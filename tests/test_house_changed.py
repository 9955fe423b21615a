"""House.changed and House.without."""

import unittest

from examples import OTHER_THINGS, SAMPLE_KEYS, SAMPLE_ROWS, SAMPLE_STANDS, SAMPLE_TEXT, TWO_STANDS
from holdhouse.errors import InvalidIndex, InvalidRows
from holdhouse.houses import House

NEW = "late if not caller: a none, stand held"
NO_INDEXES = OTHER_THINGS + (-1, -6, -7, 6, 7, 16, 10 ** 39, -10 ** 39, "0", "", (), (0,), SAMPLE_ROWS[0])


class ChangeCase(unittest.TestCase):
    def setUp(self):
        self.house = House(2, SAMPLE_STANDS, SAMPLE_KEYS, SAMPLE_ROWS)

    def tearDown(self):
        self.assertEqual(self.house, House(2, SAMPLE_STANDS, SAMPLE_KEYS, SAMPLE_ROWS))
        self.assertEqual(str(self.house), SAMPLE_TEXT.replace("lines 1", "lines 2"))
        self.assertEqual((self.house.lines, self.house.stands, self.house.key_words, self.house.rows),
                         (2, SAMPLE_STANDS, SAMPLE_KEYS, SAMPLE_ROWS))

    def has_rows(self, house, rows):
        self.assertIs(type(house), House)
        self.assertIsNot(house, self.house)
        self.assertEqual((house.lines, house.stands, house.key_words, house.rows),
                         (2, SAMPLE_STANDS, SAMPLE_KEYS, rows))
        self.assertEqual(house, House(2, SAMPLE_STANDS, SAMPLE_KEYS, rows))
        self.assertEqual(str(house).split("\n")[5:], list(rows))
        self.assertEqual(repr(house), f"House of {len(rows)} rows")

    def no_index(self, given, call):
        with self.assertRaises(InvalidIndex) as caught:
            call()
        self.assertIs(type(caught.exception), InvalidIndex)
        self.assertEqual(list(vars(caught.exception)), ["given"])
        self.assertIs(caught.exception.given, given)

    def no_row(self, index, call):
        with self.assertRaises(InvalidRows) as caught:
            call()
        self.assertIs(type(caught.exception), InvalidRows)
        self.assertEqual(vars(caught.exception), {"index": index})


class Changed(ChangeCase):
    def test_each_index(self):
        for at in range(6):
            rows = SAMPLE_ROWS[:at] + (NEW,) + SAMPLE_ROWS[at + 1:]
            with self.subTest(at=at):
                self.has_rows(self.house.changed(at, NEW), rows)
                self.has_rows(self.house.changed(text=NEW, row=at), rows)
                self.has_rows(self.house.changed(at, text=NEW), rows)

    def test_the_same_row_again(self):
        for at in range(6):
            self.assertEqual(self.house.changed(at, SAMPLE_ROWS[at]), self.house)

    def test_the_only_row(self):
        house = House(1, TWO_STANDS, (), ("gone: deaf",))
        self.assertEqual(house.changed(0, "gone: swap").rows, ("gone: swap",))
        self.assertEqual(house.rows, ("gone: deaf",))

    def test_wrong_indexes(self):
        for row in NO_INDEXES:
            with self.subTest(row=row):
                self.no_index(row, lambda: self.house.changed(row, NEW))
                self.no_index(row, lambda: self.house.changed(text=NEW, row=row))

    def test_wrong_rows(self):
        for text in OTHER_THINGS + (0, 1, (), (NEW,), [NEW], "", "gone", "gone: ", "gone: stand away",
                                    "key join: deaf", "call: hear", "lay: join", "call if me a: deaf", NEW + " ",
                                    NEW + "\n", " " + NEW, NEW + "\n" + NEW, "stand more tone", NEW.encode()):
            for at in range(6):
                with self.subTest(text=text, at=at):
                    self.no_row(at, lambda: self.house.changed(at, text))
                    self.no_row(at, lambda: self.house.changed(text=text, row=at))

    def test_the_index_first(self):
        for row in NO_INDEXES:
            for text in ("", None, 0, "gone: stand away"):
                self.no_index(row, lambda: self.house.changed(row, text))
                self.no_index(row, lambda: self.house.changed(text=text, row=row))

    def test_a_house_without_rows(self):
        house = House(1, TWO_STANDS)
        for row in (0, -1, 1, True, False, None):
            self.no_index(row, lambda: house.changed(row, "gone: deaf"))
            self.no_index(row, lambda: house.without(row))


class Without(ChangeCase):
    def test_each_index(self):
        for at in range(6):
            rows = SAMPLE_ROWS[:at] + SAMPLE_ROWS[at + 1:]
            with self.subTest(at=at):
                self.has_rows(self.house.without(at), rows)
                self.has_rows(self.house.without(row=at), rows)

    def test_one_of_two_equal_rows(self):
        house = House(1, TWO_STANDS, (), ("gone: deaf", "call: swap", "gone: deaf"))
        self.assertEqual(house.without(0).rows, ("call: swap", "gone: deaf"))
        self.assertEqual(house.without(1).rows, ("gone: deaf", "gone: deaf"))
        self.assertEqual(house.without(2).rows, ("gone: deaf", "call: swap"))

    def test_until_none_is_left(self):
        house = self.house
        for many in (5, 4, 3, 2, 1, 0):
            house = house.without(many)
            self.has_rows(house, SAMPLE_ROWS[:many])

    def test_wrong_indexes(self):
        for row in NO_INDEXES:
            with self.subTest(row=row):
                self.no_index(row, lambda: self.house.without(row))
                self.no_index(row, lambda: self.house.without(row=row))

    def test_twice_the_same(self):
        self.assertEqual(self.house.without(3), self.house.without(3))
        self.assertEqual(self.house.changed(3, NEW), self.house.changed(3, NEW))
        self.assertNotEqual(self.house.without(3), self.house)

    def test_what_is_given_stays_as_it_was(self):
        given = [0, [1]]
        self.no_index(given, lambda: self.house.without(given))
        self.no_row(0, lambda: self.house.changed(0, given))
        self.assertEqual(given, [0, [1]])


if __name__ == "__main__":
    unittest.main()
