"""begin, and the properties, the equality and the repr of moments."""

import unittest
from unittest import mock

from cases import NO_HOUSES, NO_INTEGERS, Case, behind, house_of
from examples import MANY_SHAPES_TEXT
from holdhouse import moments
from holdhouse.errors import InvalidNumber, NotAHouse
from holdhouse.houses import House
from holdhouse.moments import Moment, begin
from holdhouse.samples import joining_house, lost_house, sample_house

PROPERTIES = ("house", "phones", "stands", "callers", "places", "mates", "ears", "shape")
JOINED = (("call", 0, (2,)), ("key", "take", 2, 0, ()), ("call", 1, (0,)), ("key", "join", 2, 1, ()))


class Defined(unittest.TestCase):
    def test_in_its_file(self):
        for name in ("begin", "Moment", "play", "hearing"):
            self.assertEqual(getattr(moments, name).__module__, "holdhouse.moments")
        for name in PROPERTIES:
            self.assertIsInstance(vars(Moment)[name], property)
        for name in ("heard", "shows", "events", "after", "__eq__", "__repr__"):
            self.assertIn(name, vars(Moment))


class Begin(Case):
    def test_each_number_of_lines_and_phones(self):
        for lines in (1, 2, 3):
            house = house_of(lines, "idle talk", "x", "gone: deaf")
            for phones in (*range(1, 21),):
                moment = begin(house, phones)
                self.assertIs(type(moment), Moment)
                self.assertEqual((moment.house, moment.phones), (house, phones))
                self.stands_so(moment, ("idle",) * lines, (False,) * lines, ((None, None),) * lines,
                               (None,) * lines, (None,) * phones)
                self.assertEqual(moment.shape, ((("idle", False, None, None, None),) * lines, ()))

    def test_by_name_and_with_what_may_be_left_out(self):
        house = sample_house()
        self.assertEqual(begin(phones=3, house=house), begin(house, 3))
        self.assertEqual(begin(house=house), begin(house, 1))
        self.assertEqual(begin(house).phones, 1)

    def test_houses_without_keys_or_rows(self):
        moment = begin(House(2, (("a", "x"), ("b", "x"))), 2)
        self.stands_so(moment, ("a", "a"), (False, False), ((None, None),) * 2, (None, None), (None, None))

    def test_more_shapes_than_the_questions_bear(self):
        self.assertEqual(begin(House.read(MANY_SHAPES_TEXT), 20).phones, 20)

    def test_no_houses(self):
        for thing in NO_HOUSES:
            with self.subTest(thing=thing):
                self.raises(NotAHouse, "given", thing, begin, thing)
                self.raises(NotAHouse, "given", thing, begin, phones=None, house=thing)

    def test_wrong_numbers_of_phones(self):
        for phones in NO_INTEGERS + (0, 21, -1, -20, 10 ** 39, -10 ** 39):
            with self.subTest(phones=phones):
                self.raises(InvalidNumber, "given", phones, begin, sample_house(), phones)
                self.raises(InvalidNumber, "given", phones, begin, phones=phones, house=sample_house())


class Properties(Case):
    def test_all_that_can_stand(self):
        moment = behind(joining_house(), 4, *JOINED)
        self.stands_so(moment, ("talk", "ring"), (True, True), ((2, None), (0, None)), (1, 0), (None, None, 0, None))
        self.assertEqual(repr(moment.shape),
                         "((('talk', True, 0, None, 1), ('ring', True, 1, None, 0)), (0, None))")
        self.assertEqual((moment.house, moment.phones), (joining_house(), 4))

    def test_nothing_changes_behind_an_event(self):
        moment = begin(joining_house(), 4)
        for event in JOINED:
            before = [getattr(moment, name) for name in PROPERTIES]
            after = moment.after(event)
            self.assertEqual([getattr(moment, name) for name in PROPERTIES], before)
            self.assertNotEqual(moment, after)
            self.assertEqual(moment.after(event), after)
            moment = after

    def test_nothing_can_be_assigned(self):
        moment = begin(sample_house())
        for name in PROPERTIES:
            with self.assertRaises(AttributeError):
                setattr(moment, name, None)

    def test_a_phone_at_places_of_several_lines_is_one_in_the_shape(self):
        house = house_of(3, "idle talk", "x y z", "key x: a me, stand talk", "key y: b me, stand talk",
                         "key z: a me, hear, stand talk")
        moment = behind(house, 5, ("key", "y", 4, 0, ()), ("key", "z", 2, 1, ()), ("key", "x", 4, 2, ()),
                        ("key", "y", 2, 2, ()), ("key", "y", 1, 1, ()))
        self.stands_so(moment, ("talk",) * 3, (False,) * 3, ((None, 4), (2, 1), (4, 2)), (None,) * 3,
                       (None, None, 1, None, None))
        self.assertEqual(moment.shape, ((("talk", False, None, 0, None), ("talk", False, 1, 2, None),
                                         ("talk", False, 0, 1, None)), (None, 1, None)))

    def test_places_are_gone_through_a_first_then_b(self):
        house = house_of(1, "idle talk", "x y", "key x: a me, stand talk", "key y: b me, hear, stand talk")
        moment = behind(house, 3, ("key", "y", 0, 0, ()), ("key", "x", 2, 0, ()))
        self.assertEqual(moment.places, ((2, 0),))
        self.assertEqual(moment.shape, ((("talk", False, 0, 1, None),), (None, 0)))

    def test_names_and_loose_phones_are_not_in_the_shape(self):
        found = {behind(sample_house(), phones, ("call", 0, (phone,)), ("key", "take", phone, 0, ())).shape
                 for phones in range(1, 6) for phone in range(phones)}
        self.assertEqual(found, {((("talk", True, 0, None, None),), (0,))})


class Repr(unittest.TestCase):
    def test_whatever_the_numbers(self):
        two = House(2, (("a", "x"), ("b", "x")))
        self.assertEqual(repr(begin(two, 4)), "Moment(2 lines, 4 phones)")
        self.assertEqual(repr(begin(sample_house())), "Moment(1 lines, 1 phones)")
        self.assertEqual(repr(behind(joining_house(), 20, ("call", 1, (7,)))), "Moment(2 lines, 20 phones)")

    def test_truth(self):
        self.assertIs(bool(begin(sample_house())), True)


class Equality(unittest.TestCase):
    def same(self, one, other):
        self.assertIs(one == other, True)
        self.assertIs(one != other, False)

    def differs(self, one, other):
        self.assertIs(one == other, False)
        self.assertIs(other == one, False)
        self.assertIs(one != other, True)

    def test_on_different_ways(self):
        house = sample_house()
        start = begin(house, 2)
        self.same(start, begin(sample_house(), 2))
        self.same(start, behind(house, 2, ("call", 0, (1,)), ("gone", 0, ())))
        self.same(start, behind(house, 2, ("key", "hold", 1, 0, ())))
        self.differs(start, behind(house, 2, ("call", 0, (1,))))

    def test_other_houses_and_other_numbers(self):
        self.differs(begin(sample_house()), begin(lost_house()))
        self.differs(begin(sample_house(), 1), begin(sample_house(), 2))
        self.differs(begin(joining_house(), 2), begin(joining_house().without(0), 2))

    def test_each_thing_that_stands(self):
        house = house_of(2, "idle talk held", "x y z", "key x if not in idle: a me, hear", "key x: a me, stand talk",
                         "key y: b me, stand talk", "key z: join", "call: stand talk", "late: stand held",
                         "gone: deaf")
        start = (("call", 0, ()), ("call", 1, ()), ("key", "x", 1, 0, ()))
        moment = behind(house, 3, *start)
        self.same(moment, behind(house, 3, *start))
        for event in (("late", 0, ()), ("late", 1, ()), ("gone", 0, ()), ("gone", 1, ()), ("key", "x", 2, 0, ()),
                      ("key", "x", 0, 1, ()), ("key", "y", 0, 0, ()), ("key", "y", 1, 0, ()), ("lay", 1, ()),
                      ("key", "z", 1, 1, ())):
            with self.subTest(event=event):
                self.differs(moment, moment.after(event))

    def test_the_same_shape_with_other_phones(self):
        one, other = [behind(sample_house(), 2, ("call", 0, (phone,))) for phone in (0, 1)]
        self.assertEqual(one.shape, other.shape)
        self.differs(one, other)

    def test_things_of_other_kinds(self):
        moment = begin(sample_house())
        for thing in NO_HOUSES + (sample_house(), moment.shape, repr(moment), moment.stands):
            with self.subTest(thing=thing):
                self.differs(moment, thing)
        self.assertIs(moment == mock.ANY, False)


if __name__ == "__main__":
    unittest.main()
