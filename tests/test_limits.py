"""The eight numbers of holdhouse.limits."""

import unittest

from holdhouse import limits

NUMBERS = {
    "MOST_LINES": 3,
    "MOST_STANDS": 6,
    "MOST_KEYS": 3,
    "MOST_ROWS": 16,
    "MOST_CONDITIONS": 4,
    "MOST_DEEDS": 4,
    "MOST_PHONES": 20,
    "MOST_SHAPES": 3000,
}


class Limits(unittest.TestCase):
    def test_each_number(self):
        for name, number in NUMBERS.items():
            with self.subTest(name=name):
                self.assertEqual(getattr(limits, name), number)
                self.assertIs(type(getattr(limits, name)), int)


if __name__ == "__main__":
    unittest.main()
