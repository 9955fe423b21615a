"""Hearings beside the second account of them in model_hearings.py, for houses made by chance (always the same)."""

import random
import unittest

import model
import model_hearings
from cases import Case
from examples import HOLDING_TEXT, JOINING_TEXT, LOST_TEXT, SAMPLE_TEXT
from holdhouse.hearings import hears, parting_hearing
from holdhouse.houses import House

LONGEST = 5
FEW_SHAPES = 70


def told(house):
    """All hearings with at most LONGEST words; None if too many shapes come for the second account."""
    webs = model.small_webs(house, FEW_SHAPES)
    return None if webs is None else model_hearings.Told(house, webs).hearings(LONGEST)


class Hearings(Case):
    def compare(self, chance, one, other):
        """Whether both directions, and some hearings, are as the second account says; None if it says nothing."""
        hearings = [told(one), told(other)]
        if None in hearings:
            return None
        self.parted(one, other, *hearings)
        self.parted(other, one, *reversed(hearings))
        all_told = sorted(hearings[0] | hearings[1])
        for words in chance.sample(all_told, min(12, len(all_told))):
            self.assertIs(hears(one, words), words in hearings[0])
            self.assertIs(hears(other, words), words in hearings[1])
            wrong = words[:-1] + (chance.choice(("tone", "music", "voice", "both", "stranger", "over")),)
            self.assertIs(hears(one, wrong), wrong in hearings[0])
        return model_hearings.parting(*hearings) or ()

    def parted(self, one, other, hearings, other_hearings):
        found = parting_hearing(one, other)
        expected = model_hearings.parting(hearings, other_hearings)
        if expected is None:
            # The shortest one, if there is any, is too long for the second account.
            self.assertTrue(found is None or len(found) > LONGEST)
        else:
            self.assertEqual(repr(found), repr(expected))

    def test_bent_houses(self):
        lengths = []
        for text in (SAMPLE_TEXT, LOST_TEXT, JOINING_TEXT, HOLDING_TEXT):
            for seed in range(14):
                chance = random.Random(f"{seed} of {text}")
                house = House.read(text)
                one = chance.choice((house, model_hearings.bent_house(chance, house)))
                other = model_hearings.bent_house(chance, house)
                with self.subTest(one=str(one), other=str(other)):
                    lengths.append(self.compare(chance, one, other))
        self.assertGreater(len([words for words in lengths if words]), 15)
        self.assertGreater(max(len(words) for words in lengths if words), 3)

    def test_houses_by_chance(self):
        compared = 0
        for seed in range(40):
            chance = random.Random(seed)
            lines = chance.choice((1, 1, 2, 3))
            house = model.random_house(seed, lines, chance.randint(3, 8), chance.randint(1, 3), chance.randint(3, 4))
            other = model_hearings.bent_house(chance, house)
            with self.subTest(one=str(house), other=str(other)):
                compared += self.compare(chance, house, other) is not None
        self.assertGreater(compared, 25)

    def test_houses_that_have_nothing_to_do_with_each_other(self):
        for seed in range(20):
            chance = random.Random(seed)
            one, other = [model.random_house(seed + more, chance.choice((1, 2)), 6) for more in (500, 900)]
            with self.subTest(one=str(one), other=str(other)):
                self.compare(chance, one, other)


if __name__ == "__main__":
    unittest.main()
