"""The three houses of holdhouse.samples."""

import unittest

from examples import JOINING_TEXT, LOST_TEXT, SAMPLE_KEYS, SAMPLE_ROWS, SAMPLE_STANDS, SAMPLE_TEXT
from holdhouse import samples
from holdhouse.houses import House

TEXTS = {"sample_house": SAMPLE_TEXT, "lost_house": LOST_TEXT, "joining_house": JOINING_TEXT}


class Samples(unittest.TestCase):
    def test_each_text(self):
        for name, text in TEXTS.items():
            with self.subTest(name=name):
                make = getattr(samples, name)
                self.assertEqual(make.__module__, "holdhouse.samples")
                self.assertIs(type(make()), House)
                self.assertEqual(str(make()), text)
                self.assertEqual(make(), House.read(text))
                self.assertEqual(make(), make())

    def test_pieces_of_the_sample_house(self):
        house = samples.sample_house()
        self.assertEqual((house.lines, house.stands, house.key_words, house.rows),
                         (1, SAMPLE_STANDS, SAMPLE_KEYS, SAMPLE_ROWS))

    def test_the_lost_house_is_the_sample_house_with_two_other_rows(self):
        house, sample = samples.lost_house(), samples.sample_house()
        self.assertEqual([at for at in range(6) if house.rows[at] != sample.rows[at]], [2, 3])
        self.assertEqual(house.rows[2], "key hold if in talk and me a: deaf, a none, stand held")
        self.assertEqual(house.rows[3], "key take if in held and me a: hear, stand talk")
        self.assertEqual((house.lines, house.stands, house.key_words), (1, SAMPLE_STANDS, SAMPLE_KEYS))

    def test_pieces_of_the_joining_house(self):
        house = samples.joining_house()
        self.assertEqual((house.lines, house.stands, house.key_words), (2, SAMPLE_STANDS[:3], ("take", "join")))
        self.assertEqual(house.rows[2], "key join if busy: join")
        self.assertEqual(len(house), 5)


if __name__ == "__main__":
    unittest.main()
