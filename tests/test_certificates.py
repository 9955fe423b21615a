"""certify_never, certify_kept and certify_can."""

import unittest
from unittest import mock

from bending import paths, part_at
from cases import NO_HOUSES, Case, house_of
from examples import (HOLDING_TEXT, JUST_FEW_ENOUGH_TEXT, LOST_TEXT, MANY_SHAPES_TEXT, ONE_SHAPE_TOO_MANY_TEXT,
                      OTHER_THINGS, SAMPLE_TEXT, TOO_MANY_WITH_THREE_TEXT)
from holdhouse import certificates
from holdhouse.certificates import certify_can, certify_kept, certify_never
from holdhouse.checker import accepts
from holdhouse.errors import InvalidPicture, NotAHouse, TooMany
from holdhouse.houses import House
from holdhouse.moments import play
from holdhouse.questions import called_away, first, shapes, stuck
from holdhouse.samples import joining_house, lost_house, sample_house

TAKING = sample_house().changed(3, "key take if not in free: a me, hear, stand talk")
FREE = (("free", False, None, None, None),), ()
RING = (("ring", True, 0, None, None),), (None,)
TALK = (("talk", True, 0, None, None),), (0,)
HELD = (("held", True, 0, None, None),), (None,)
LOST = (("held", True, None, None, None),), ()
LOST_HOLD = (("call", 0, (0,)), ("key", "take", 0, 0, ()), ("key", "hold", 0, 0, ()))
NO_PICTURES = OTHER_THINGS + (0, 1, (), ("a",), "", "in park", "me a", "me b", "busy", "a and", "not not a", "both",
                              "a and b and a and b and a", "in held ", " in held", mock.ANY)
HOUSES_WITH_TOO_MANY = (MANY_SHAPES_TEXT, ONE_SHAPE_TOO_MANY_TEXT, TOO_MANY_WITH_THREE_TEXT)


class Certified(Case):
    def certified(self, claim, call, *values, **by_name):
        """The certificate that the call returns beside just this claim; it is accepted."""
        told = call(*values, **by_name)
        self.assertEqual((type(told), len(told)), (tuple, 2))
        self.assertEqual(repr(told[0]), repr(claim))
        self.assertIs(accepts(*told), True)
        return told[1]

    def just_what_comes(self, house, tables):
        """These are tables of just the shapes that come."""
        self.assertEqual((type(tables), len(tables)), (tuple, 2 * house.lines + 2))
        for at, table in enumerate(tables):
            come = shapes(house, at + 1)
            self.assertEqual((type(table), len(table)), (tuple, len(come)))
            self.assertEqual({repr(shape) for shape in table}, {repr(shape) for shape in come})

    def just_what_comes_with_numbers(self, house, tables):
        self.just_what_comes(house, tuple(tuple(shape for shape, numbers in table) for table in tables))


class Defined(unittest.TestCase):
    def test_in_their_file(self):
        for name in ("certify_never", "certify_kept", "certify_can"):
            self.assertEqual(getattr(certificates, name).__module__, "holdhouse.certificates")


class Never(Certified):
    def never(self, house, picture):
        claim = ("never", str(house), picture)
        self.just_what_comes(house, self.certified(claim, certify_never, house, picture))
        self.just_what_comes(house, self.certified(claim, certify_never, picture=picture, house=house))
        self.assertIs(first(house, picture), None)

    def comes(self, house, picture, phones):
        claim = ("comes", str(house), picture)
        for certificate in (self.certified(claim, certify_never, house, picture),
                            self.certified(claim, certify_never, picture=picture, house=house)):
            self.assertEqual(certificate[0], phones)
            end = play(house, certificate)
            self.assertTrue(any(end.shows(line, picture) for line in range(house.lines)))
        self.assertEqual(first(house, picture)[0], phones)

    def test_the_sample_house(self):
        tables = self.certified(("never", SAMPLE_TEXT, "b"), certify_never, sample_house(), "b")
        for table in tables:
            self.assertEqual(sorted(map(repr, table)), sorted(map(repr, (FREE, RING, TALK, HELD))))
        self.assertEqual(len(tables), 4)
        certificate = self.certified(("comes", SAMPLE_TEXT, "in held"), certify_never, sample_house(), "in held")
        self.assertEqual(repr(certificate), repr((1, LOST_HOLD)))

    def test_pictures_that_never_come(self):
        for picture in ("voice and not caller", "joined", "stranger", "in ring and ear a", "a and not a"):
            self.never(sample_house(), picture)
        for picture in ("b", "stranger and not joined", "in ring and voice and not joined"):
            self.never(joining_house(), picture)

    def test_pictures_that_come(self):
        for picture in ("in free", "not caller", "voice", "in held and not voice", "not in held and a"):
            self.comes(sample_house(), picture, 1)
        for picture in ("stranger and not voice", "joined and in talk", "in ring and not a"):
            self.comes(joining_house(), picture, 1)

    def test_at_the_beginning(self):
        self.assertEqual(certify_never(sample_house(), "in free")[1], (1, ()))

    def test_the_fewest_phones(self):
        rows = ("call: a some, b some, stand ring", "late: a some, b some", "key x if a and b: a me, stand talk")
        house = house_of(1, "free ring talk", "x", *rows)
        self.comes(house, "a", 1)
        self.comes(house, "a and b", 2)
        self.never(house.changed(1, "late: stand talk"), "b and not a")
        self.comes(house_of(1, "free ring talk", "x", rows[0], "key x if not me a and not me b and b: stand talk"),
                   "in talk", 3)
        self.comes(house_of(2, "free ring talk", "x", rows[0], "key x if a and b and busy: stand talk",
                            "key x: a me, hear"), "in talk", 2)

    def test_what_comes_with_few_phones_alone(self):
        house = house_of(1, "free ring talk", "", "call: a some, b some, stand ring", "late if not b: stand talk")
        self.comes(house, "in talk", 1)
        self.never(house, "b and not a")
        tables = certify_never(house, "b and not a")[1]
        self.assertEqual([len(table) for table in tables], [5, 3, 3, 3])

    def test_lines_and_phones_have_their_names(self):
        # The second line rings only while the first one talks, so the names are those from the beginning.
        for lines in (2, 3):
            house = house_of(lines, "free ring talk held", "x y", "call: a some, stand ring",
                             "key x if in ring and me a: hear, stand talk", "key y if busy and in ring: a me, hear, stand held",
                             "gone if in talk and not ear a: stand held")
            for picture in ("in held", "in held and ear a", "in held and not caller", "in talk and not voice and not caller"):
                with self.subTest(lines=lines, picture=picture):
                    self.comes(house, picture, 1)

    def test_houses_without_rows_and_keys(self):
        for lines in (1, 2, 3):
            house = house_of(lines, "free talk", "")
            self.never(house, "in talk")
            self.never(house, "caller")
            self.comes(house, "in free", 1)
            self.assertEqual(certify_never(house, "a")[1], (((FREE[0] * lines, ()),),) * (2 * lines + 2))


class Kept(Certified):
    def kept(self, house):
        claim = ("kept", str(house))
        self.just_what_comes(house, self.certified(claim, certify_kept, house))
        self.just_what_comes(house, self.certified(claim, certify_kept, house=house))
        self.assertIs(called_away(house), None)

    def away(self, house, phones):
        claim = ("away", str(house))
        for certificate in (self.certified(claim, certify_kept, house), self.certified(claim, certify_kept, house=house)):
            self.assertEqual(certificate[0], phones)
            ahead, behind = play(house, (phones, certificate[1][:-1])), play(house, certificate)
            away = [phone for phone in range(phones) if ahead.ears[phone] is not None
                    and behind.ears[phone] != ahead.ears[phone]]
            self.assertTrue(away)
        self.assertEqual(called_away(house)[0], phones)

    def test_houses_where_nobody_is_called_away(self):
        for house in (sample_house(), lost_house(), joining_house(), House.read(HOLDING_TEXT), house_of(3, "free talk", "")):
            self.kept(house)

    def test_by_keys_of_others(self):
        self.away(TAKING, 2)
        self.kept(TAKING.changed(3, "key take if not in free and not in talk: a me, hear, stand talk"))

    def test_by_events_without_a_phone(self):
        house = house_of(2, "free talk", "x", "call: a some, stand talk", "key x if me a: hear")
        for row in ("late if a: deaf", "late if ear a: a none"):
            self.away(House(2, house.stands, ("x",), (*house.rows, row)), 1)
        self.kept(House(2, house.stands, ("x",), (*house.rows, "gone: deaf")))
        self.kept(House(2, house.stands, ("x",), (*house.rows, "late: stand free")))

    def test_the_fewest_phones(self):
        house = house_of(1, "free talk", "x y", "call: a some, b some, stand talk", "key x if me a: hear",
                         "key y if not me a and not me b and b: deaf")
        self.away(house, 3)
        self.away(house.changed(2, "key y if me b: deaf"), 2)
        self.kept(house.changed(2, "key y if me a: deaf"))


class Can(Certified):
    def can(self, house, picture, goal):
        claim = ("can", str(house), picture, goal)
        tables = self.certified(claim, certify_can, house, picture, goal)
        self.just_what_comes_with_numbers(house, tables)
        self.just_what_comes_with_numbers(
            house, self.certified(claim, certify_can, goal=goal, picture=picture, house=house))
        self.assertIs(stuck(house, picture, goal), None)
        return tables

    def stuck(self, house, picture, goal, phones):
        claim = ("stuck", str(house), picture, goal)
        for certificate in (self.certified(claim, certify_can, house, picture, goal),
                            self.certified(claim, certify_can, goal=goal, picture=picture, house=house)):
            weaving, line, table = certificate
            self.assertEqual(weaving[0], phones)
            end = play(house, weaving)
            self.assertTrue(end.shows(line, picture))
            self.assertIn(end.shape, table)
        self.assertEqual(stuck(house, picture, goal)[0], phones)
        return certificate

    def test_the_sample_house(self):
        for table in self.can(sample_house(), "caller and not voice", "voice"):
            numbers = dict(table)
            self.assertEqual(numbers[TALK], (0,))
            self.assertIs(numbers[FREE][0], None)
            for shape in (RING, HELD):
                self.assertGreater(numbers[shape][0], 0)
        for picture, goal in (("in ring", "in free"), ("in held", "not caller"), ("voice", "in held"),
                              ("b", "b"), ("voice", "voice")):
            self.can(sample_house(), picture, goal)

    def test_the_lost_house(self):
        certificate = self.stuck(lost_house(), "caller and not voice", "voice", 1)
        self.assertEqual(repr(certificate), repr(((1, LOST_HOLD), 0, (LOST,))))
        self.can(lost_house(), "in ring", "voice")
        self.stuck(lost_house(), "in free", "caller", 1)

    def test_the_beginning_is_stuck(self):
        for lines in (1, 2, 3):
            house = house_of(lines, "free talk", "x", "call: stand talk")
            weaving, line, table = self.stuck(house, "in free", "in talk", 1)
            self.assertEqual(weaving, (1, ()))
            self.assertEqual(table, ((FREE[0] * lines, ()),))

    def test_a_goal_at_the_free_stand(self):
        house = house_of(2, "free ring talk", "x", "call: stand ring", "key x if in ring: stand free", "late: stand talk")
        self.can(house, "in ring", "in free")
        self.stuck(house, "in talk", "in free", 1)
        self.stuck(house, "in talk", "in ring", 1)
        self.can(house, "in ring", "in talk")

    def test_not_by_way_of_the_free_stand(self):
        house = house_of(1, "free ring talk", "x", "key x if in free: stand talk", "call: stand ring",
                         "late if in ring: stand free")
        self.can(house, "in free", "in talk")
        self.stuck(house, "in ring", "in talk", 1)

    def test_lines_of_which_another_one_helps(self):
        for lines in (2, 3):
            house = house_of(lines, "free ring talk", "x y", "call: a some, stand ring", "key x if me a: hear, stand talk",
                             "key y if busy: join")
            self.can(house, "joined", "voice")
            self.can(house, "in ring and joined", "voice and in ring")
            self.stuck(house, "in ring and joined", "in free", 1)
            self.stuck(house, "in talk and joined", "in talk and not joined", 1)

    def test_the_fewest_phones(self):
        house = house_of(1, "free ring talk held", "x y", "call: a some, b some, stand ring",
                         "key x if in ring and not me a and not me b: stand held", "key y if not in held: stand talk")
        self.can(house, "in ring", "in talk")
        self.stuck(house, "not in free", "in talk", 3)
        house = house_of(1, "free ring talk", "x", "call: a some, b some, stand ring",
                         "key x if not me a and not me b: stand talk")
        self.stuck(house, "in ring", "in talk", 1)
        self.stuck(house, "in ring and b", "in talk", 2)
        self.can(house, "in ring and b", "in ring and a")

    def test_stuck_with_many_phones_alone(self):
        house = house_of(1, "free ring talk", "", "call: a some, b some, stand ring", "late if not b: stand talk")
        self.stuck(house, "in ring", "in talk", 2)
        self.can(house, "in ring and not b", "in talk")

    def test_the_line_that_is_stuck(self):
        house = House.read(HOLDING_TEXT)
        for picture, goal in (("in held", "in ring"), ("joined and in talk", "in ring"), ("in held and joined", "b")):
            weaving, line, table = self.stuck(house, picture, goal, 1)
            self.assertFalse(play(house, weaving).shows(line, goal))

    def test_each_shape_once(self):
        house = House.read(HOLDING_TEXT)
        for picture, goal in (("in held", "voice"), ("caller", "in free"), ("in ring", "voice")):
            told = certify_can(house, picture, goal)
            self.assertIs(accepts(*told), True)
            tables = told[1] if told[0][0] == "can" else (told[1][2],)
            for table in tables:
                found = [pair[0] for pair in table] if told[0][0] == "can" else list(table)
                self.assertEqual(len(set(found)), len(found))


class ManyShapes(Certified):
    """The house of which just few enough shapes come."""

    def lengths(self, thing):
        return [len(part_at(thing, path)) for path in paths(thing) if isinstance(part_at(thing, path), tuple)]

    def test_tables(self):
        house = House.read(JUST_FEW_ENOUGH_TEXT)
        for claim, call, others in ((("never", str(house), "a and not a"), certify_never, 1),
                                    (("can", str(house), "in talk and b and not b", "in free"), certify_can, 2)):
            tables = self.certified(claim, call, house, *claim[2:])
            self.assertLessEqual(max(len(table) for table in tables), 3000)
            come = [717, 1875, 2975, 2998, 2293, 1541, 1046, 896]
            self.assertEqual([len(table) for table in tables], come)

    def test_a_dead_end(self):
        house = House.read(JUST_FEW_ENOUGH_TEXT)
        told = certify_can(house, "caller", "in free and caller")
        self.assertEqual(told[0], ("stuck", str(house), "caller", "in free and caller"))
        self.assertIs(accepts(*told), True)
        self.assertLess(max(self.lengths(told)), 20000)


class Wrong(Case):
    CALLS = ((certify_never, ("picture",)), (certify_kept, ()), (certify_can, ("picture", "goal")))

    def test_no_houses(self):
        for thing in NO_HOUSES + (SAMPLE_TEXT,):
            with self.subTest(thing=thing):
                for call, others in self.CALLS:
                    self.raises(NotAHouse, "given", thing, call, thing, *[None for name in others])
                    self.raises(NotAHouse, "given", thing, call, **{name: None for name in others}, house=thing)

    def test_no_pictures(self):
        for picture in NO_PICTURES:
            with self.subTest(picture=picture):
                self.raises(InvalidPicture, "given", picture, certify_never, sample_house(), picture)
                self.raises(InvalidPicture, "given", picture, certify_never, picture=picture, house=sample_house())
                self.raises(InvalidPicture, "given", picture, certify_can, sample_house(), picture, None)
                self.raises(InvalidPicture, "given", picture, certify_can, goal="", picture=picture, house=sample_house())

    def test_no_goals(self):
        for goal in NO_PICTURES:
            with self.subTest(goal=goal):
                self.raises(InvalidPicture, "given", goal, certify_can, sample_house(), "a", goal)
                self.raises(InvalidPicture, "given", goal, certify_can, goal=goal, picture="a", house=sample_house())

    def test_stands_of_another_house(self):
        for call, others in self.CALLS[::2]:
            self.raises(InvalidPicture, "given", "in held", call, joining_house(), *["in held" for name in others])
        self.raises(InvalidPicture, "given", "in held", certify_can, joining_house(), "in ring", "in held")

    def test_too_many(self):
        for text in HOUSES_WITH_TOO_MANY:
            house = House.read(text)
            for call, others in self.CALLS:
                self.raises(TooMany, "most", 3000, call, house, *["in free" for name in others])
                self.raises(TooMany, "most", 3000, call, house=house, **{name: "b" for name in others})

    def test_pictures_before_too_many(self):
        house = House.read(MANY_SHAPES_TEXT)
        self.raises(InvalidPicture, "given", "in park", certify_never, house, "in park")
        self.raises(InvalidPicture, "given", "in park", certify_can, house, "in park", "in wait")
        self.raises(InvalidPicture, "given", "in park", certify_can, house, "b", "in park")

    def test_the_same_again(self):
        for text in (SAMPLE_TEXT, LOST_TEXT, HOLDING_TEXT):
            house, same = House.read(text), House.read(text)
            self.assertEqual(certify_never(house, "in held"), certify_never(same, "in held"))
            self.assertEqual(certify_kept(house), certify_kept(same))
            self.assertEqual(certify_can(house, "in held", "voice"), certify_can(same, "in held", "voice"))


if __name__ == "__main__":
    unittest.main()
