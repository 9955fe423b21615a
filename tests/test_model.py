"""Moments and questions beside the second account of them in model.py, for houses made by chance (always the same)."""

import random
import unittest

import model
from cases import Case
from examples import JOINING_TEXT, LOST_TEXT, SAMPLE_TEXT
from holdhouse.houses import House
from holdhouse.moments import begin, hearing, play
from holdhouse.questions import called_away, first, most, shapes, stuck, unused

# How many shapes of a house the second account bears, by the number of lines.
FEW = {1: 150, 2: 40, 3: 30}


def houses(seeds, lines):
    for seed in seeds:
        chance = random.Random(f"{seed} of {lines}")
        yield seed, model.random_house(seed, lines, chance.randint(1, 9), chance.randint(0, 3), chance.randint(2, 4))


def counted(weaving):
    return None if weaving is None else (weaving[0], len(weaving[1]))


class Moments(Case):
    def follow(self, house, phones, chance, turns):
        """Go on from the beginning by events taken by chance; look at each moment."""
        moment, now, events = begin(house, phones), model.start(house, phones), ()
        for turn in range(turns):
            behind = model.events(house, now)
            self.assertEqual(moment.events(), tuple(sorted(behind)))
            event = chance.choice(sorted(behind))
            moment, now, events = moment.after(event), behind[event][0], events + (event,)
            self.looks_so(moment, now, chance)
            for line in range(house.lines):
                self.assertEqual(hearing(house, (phones, events), line), model.hearing(house, (phones, events), line))
        self.assertEqual(play(house, (phones, events)), moment)

    def looks_so(self, moment, now, chance):
        self.stands_so(moment, *now)
        self.assertEqual(repr(moment.shape), repr(model.shape(now)))
        for line in range(moment.house.lines):
            picture = model.random_picture(chance, moment.house)
            self.assertIs(moment.shows(line, picture), model.shows(now, line, picture))
            self.assertEqual(moment.heard(line), model.heard(moment.house, now, line))

    def test_one_line(self):
        for seed, house in houses(range(150), 1):
            with self.subTest(seed=seed, house=str(house)):
                chance = random.Random(seed)
                self.follow(house, chance.randint(1, 4), chance, 10)

    def test_two_and_three_lines(self):
        for lines in (2, 3):
            for seed, house in houses(range(80), lines):
                with self.subTest(seed=seed, house=str(house)):
                    chance = random.Random(seed)
                    self.follow(house, chance.randint(1, 4), chance, 8)

    def test_sample_houses(self):
        for text in (SAMPLE_TEXT, LOST_TEXT, JOINING_TEXT):
            for seed in range(20):
                chance = random.Random(seed)
                self.follow(House.read(text), chance.randint(1, 4), chance, 15)


class Questions(Case):
    def check(self, house, webs, chance, turns):
        """Whether all answers are those of the second account, with one phone more than are enough."""
        for web in webs:
            found = shapes(house, web.phones)
            self.assertEqual(len(set(found)), len(found))
            self.assertEqual(set(found), web.shapes())
        done = {row for web in webs for row in web.done()}
        self.assertEqual(unused(house), tuple(row for row in range(len(house)) if row not in done))
        self.away(house, webs)
        for turn in range(turns):
            picture, goal = [model.random_picture(chance, house) for which in range(2)]
            self.assertEqual(most(house, picture), max(web.most(picture) for web in webs))
            self.first(house, webs, picture)
            self.stuck(house, webs, picture, goal)

    def away(self, house, webs):
        found = called_away(house)
        self.assertEqual(counted(found), model.fewest(webs, lambda web: web.away()))
        if found is not None:
            ahead, behind = play(house, (found[0], found[1][:-1])), play(house, found)
            self.assertTrue(model.away(model.now_of(ahead), model.now_of(behind), found[1][-1]))

    def first(self, house, webs, picture):
        found = first(house, picture)
        self.assertEqual(counted(found), model.fewest(webs, lambda web: web.first(picture)))
        if found is not None:
            self.assertTrue(model.shown_lines(model.now_of(play(house, found)), picture))

    def stuck(self, house, webs, picture, goal):
        found = stuck(house, picture, goal)
        self.assertEqual(counted(found), model.fewest(webs, lambda web: web.stuck(picture, goal)))
        if found is not None:
            end = model.shape(model.now_of(play(house, found)))
            self.assertIn(end, map(model.shape, webs[found[0] - 1].stuck_nows(picture, goal)))

    def check_all(self, seeds, lines, turns):
        asked = 0
        for seed, house in houses(seeds, lines):
            webs = model.small_webs(house, FEW[lines])
            if webs:
                asked += 1
                with self.subTest(seed=seed, house=str(house)):
                    self.check(house, webs, random.Random(seed), turns)
        return asked

    def test_one_line(self):
        self.assertGreater(self.check_all(range(1000, 1120), 1, 4), 80)

    def test_two_lines(self):
        self.assertGreater(self.check_all(range(2000, 2060), 2, 4), 25)

    def test_three_lines(self):
        self.assertGreater(self.check_all(range(3000, 3040), 3, 3), 5)

    def test_sample_houses(self):
        for text in (SAMPLE_TEXT, LOST_TEXT):
            house = House.read(text)
            self.check(house, model.small_webs(house, 10), random.Random(text), 20)

    def test_phones_by_name_come_to_the_same_shapes(self):
        for lines, most_phones in ((1, 4), (2, 3)):
            for seed, house in houses(range(4000, 4030), lines):
                with self.subTest(seed=seed, house=str(house)):
                    for phones in range(1, most_phones + 1):
                        named = model.Web(house, phones, named=True, few=600)
                        if named.whole:
                            self.assertEqual(named.shapes(), set(shapes(house, phones)))


if __name__ == "__main__":
    unittest.main()
