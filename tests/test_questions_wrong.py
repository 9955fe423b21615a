"""Questions of wrong arguments, and of houses of which too many shapes come."""

import unittest
from unittest import mock

from cases import NO_HOUSES, NO_INTEGERS, Case, house_of
from examples import (JUST_FEW_ENOUGH_TEXT, MANY_SHAPES_TEXT, ONE_SHAPE_TOO_MANY_TEXT, OTHER_THINGS,
                      TOO_MANY_WITH_THREE_TEXT)
from holdhouse import walks
from holdhouse.errors import InvalidNumber, InvalidPicture, NotAHouse, TooMany
from holdhouse.houses import House
from holdhouse.questions import called_away, first, most, shapes, stuck, unused
from holdhouse.samples import joining_house, sample_house

NO_PHONES = NO_INTEGERS + (0, 21, -1, 10 ** 39, -10 ** 39, mock.ANY)
NO_PICTURES = OTHER_THINGS + (0, 1, (), ("a",), "", "in park", "me a", "busy", "a and", "a and b and a and b and a",
                              "both", "in held ", " in held", mock.ANY)


class Wrong(Case):
    def test_no_houses(self):
        for thing in NO_HOUSES:
            with self.subTest(thing=thing):
                for ask, others in ((shapes, ("phones",)), (first, ("picture",)), (stuck, ("picture", "goal")),
                                    (called_away, ()), (most, ("picture",)), (unused, ())):
                    self.raises(NotAHouse, "given", thing, ask, thing, *[None for name in others])
                    self.raises(NotAHouse, "given", thing, ask, **{name: None for name in others}, house=thing)

    def test_no_numbers_of_phones(self):
        for phones in NO_PHONES:
            with self.subTest(phones=phones):
                self.raises(InvalidNumber, "given", phones, shapes, sample_house(), phones)
                self.raises(InvalidNumber, "given", phones, shapes, phones=phones, house=sample_house())

    def test_no_pictures(self):
        for picture in NO_PICTURES:
            with self.subTest(picture=picture):
                for ask in (first, most):
                    self.raises(InvalidPicture, "given", picture, ask, sample_house(), picture)
                    self.raises(InvalidPicture, "given", picture, ask, picture=picture, house=sample_house())
                self.raises(InvalidPicture, "given", picture, stuck, sample_house(), picture, None)
                self.raises(InvalidPicture, "given", picture, stuck, goal="a", picture=picture, house=sample_house())

    def test_no_goals(self):
        for goal in NO_PICTURES:
            with self.subTest(goal=goal):
                self.raises(InvalidPicture, "given", goal, stuck, sample_house(), "a", goal)
                self.raises(InvalidPicture, "given", goal, stuck, goal=goal, picture="a", house=sample_house())

    def test_stands_of_another_house(self):
        for ask in (first, most):
            self.raises(InvalidPicture, "given", "in held", ask, joining_house(), "in held")
        self.raises(InvalidPicture, "given", "in held", stuck, joining_house(), "a", "in held")


class Many(Case):
    def too_many(self, house, *asked):
        for ask, *others in asked:
            with self.subTest(ask=ask):
                self.raises(TooMany, "most", 3000, ask, house, *others)

    def test_each_question(self):
        house = House.read(MANY_SHAPES_TEXT)
        self.too_many(house, (shapes, 1), (shapes, 20), (first, "in free"), (stuck, "a", "b"), (called_away,),
                      (most, "caller"), (unused,))

    def test_all_other_errors_come_first(self):
        house = House.read(MANY_SHAPES_TEXT)
        self.raises(InvalidNumber, "given", 0, shapes, house, 0)
        for ask in (first, most):
            self.raises(InvalidPicture, "given", "in park", ask, house, "in park")
        self.raises(InvalidPicture, "given", "in park", stuck, house, "in park", "busy")
        self.raises(InvalidPicture, "given", "busy", stuck, house, "a", "busy")

    def test_one_more_than_3000_with_most_phones(self):
        self.too_many(House.read(ONE_SHAPE_TOO_MANY_TEXT), (shapes, 1), (shapes, 3))

    def test_one_more_than_3000_with_three_phones_alone(self):
        self.too_many(House.read(TOO_MANY_WITH_THREE_TEXT), (first, "in free"), (shapes, 8))

    def test_few_enough_with_each_number_of_phones(self):
        self.assertEqual(len(shapes(House.read(JUST_FEW_ENOUGH_TEXT), 4)), 2998)

    def test_lines_on_their_own(self):
        house = house_of(3, "free b c d e f", "x y z", "call: stand b", "key x: stand c", "key y: stand d",
                         "key z: stand e", "late if in e: stand f")
        for phones in (1, 2, 20):
            self.assertEqual(len(shapes(house, phones)), 11 ** 3)
        with mock.patch.object(walks, "MOST_SHAPES", 11 ** 3):
            self.assertEqual(len(shapes(house, 8)), 11 ** 3)
        with mock.patch.object(walks, "MOST_SHAPES", 11 ** 3 - 1):
            self.raises(TooMany, "most", 11 ** 3 - 1, shapes, house, 8)

    def test_houses_that_took_long(self):
        house = house_of(2, "free ring talk", "ka kb", "call: a some, stand ring",
                         "key ka if in ring: b me, hear, stand talk", "key kb: a me, join, hear",
                         "late if in talk: a some, b some", "key ka if in talk: a me, hear, swap", "lay if a: b some",
                         "gone if joined: deaf, stand ring")
        self.too_many(house, (unused,), (called_away,), (shapes, 6), (shapes, 1))
        house = house_of(3, "sa sb sc sd se sf", "", "call: a some, stand sb", "late if in sb: stand sc",
                         "late if in sc: stand sd", "late if in sd: stand se", "late if in se: stand sf")
        self.too_many(house, (shapes, 1), (first, "in sa"))

    def test_just_as_many_as_are_borne(self):
        with mock.patch.object(walks, "MOST_SHAPES", 4):
            self.assertEqual(len(shapes(sample_house(), 1)), 4)
        with mock.patch.object(walks, "MOST_SHAPES", 3):
            self.raises(TooMany, "most", 3, shapes, sample_house(), 1)


if __name__ == "__main__":
    unittest.main()
