"""The deeds of rows, what comes ahead of them, and the clearing of lines behind them."""

import unittest

from cases import Case, behind, house_of

NOBODY = (None, None)


class Places(Case):
    def places(self, deeds, event, phones=4, occasion="key do"):
        """What is at the places and what is heard behind these deeds, where 0 and 1 were at a and b, both hearing."""
        house = house_of(1, "free talk", "put sit do", "key put: a me, hear, stand talk", "key sit: b me, hear",
                         f"{occasion}: {deeds}")
        way = (("key", "put", 0, 0, ()), ("key", "sit", 1, 0, ()))
        self.assertEqual(behind(house, phones, *way).places, ((0, 1),))
        moment = behind(house, phones, *way, event)
        return moment.places[0], [phone for phone, ear in enumerate(moment.ears) if ear == 0]

    def press(self, deeds, phone=2, picks=()):
        return self.places(deeds, ("key", "do", phone, 0, picks))

    def test_none(self):
        self.assertEqual(self.press("a none"), ((None, 1), [1]))
        self.assertEqual(self.press("b none"), ((0, None), [0]))
        self.assertEqual(self.press("a none, a none"), ((None, 1), [1]))
        self.assertEqual(self.press("a none, b none"), (NOBODY, []))

    def test_some(self):
        self.assertEqual(self.press("a some", picks=(3,)), ((3, 1), [1]))
        self.assertEqual(self.press("b some", picks=(3,)), ((0, 3), [0]))
        self.assertEqual(self.press("a some, b some", picks=(3, 0)), ((3, 0), []))
        self.assertEqual(self.press("a some", phone=1, picks=(2,)), ((2, 1), [1]))

    def test_some_when_nobody_is_loose(self):
        self.assertEqual(self.places("a some", ("key", "do", 0, 0, ()), 2), ((None, 1), [1]))
        self.assertEqual(self.places("b some", ("key", "do", 2, 0, ()), 3), ((0, None), [0]))
        self.assertEqual(self.places("a some, a some", ("key", "do", 2, 0, (0,)), 3), ((0, 1), [1]))
        self.assertEqual(self.places("a some, b some", ("key", "do", 1, 0, (0,)), 2), ((None, 0), []))

    def test_me(self):
        self.assertEqual(self.press("a me"), ((2, 1), [1]))
        self.assertEqual(self.press("b me"), ((0, 2), [0]))
        self.assertEqual(self.press("a me, b me"), ((None, 2), []))

    def test_me_at_this_place_already(self):
        self.assertEqual(self.press("a me", 0), ((0, 1), [0, 1]))
        self.assertEqual(self.press("b me", 1), ((0, 1), [0, 1]))

    def test_me_leaves_the_other_place_and_still_hears(self):
        self.assertEqual(self.press("b me", 0), ((None, 0), [0]))
        self.assertEqual(self.press("a me", 1), ((1, None), [1]))

    def test_me_at_a_lay(self):
        lay = ("lay", 0, ())
        self.assertEqual(self.places("b me", lay, occasion="lay"), ((None, 0), []))
        self.assertEqual(self.places("a me", lay, occasion="lay"), ((0, 1), [1]))
        self.assertEqual(self.places("a none", lay, occasion="lay"), ((None, 1), [1]))

    def test_some_at_a_late(self):
        for picks, told in (((2,), ((2, 1), [1])), ((3,), ((3, 1), [1]))):
            self.assertEqual(self.places("a some", ("late", 0, picks), occasion="late"), told)

    def test_swap(self):
        self.assertEqual(self.press("swap"), ((1, 0), [0, 1]))
        self.assertEqual(self.press("swap, swap"), ((0, 1), [0, 1]))
        self.assertEqual(self.press("a none, swap"), ((1, None), [1]))
        self.assertEqual(self.press("a none, b none, swap"), (NOBODY, []))

    def test_deaf(self):
        self.assertEqual(self.press("deaf"), ((0, 1), []))
        self.assertEqual(self.press("deaf, hear", 0), ((0, 1), [0]))

    def test_hear(self):
        self.assertEqual(self.press("hear"), ((0, 1), [0, 1]))
        self.assertEqual(self.press("b me, hear"), ((0, 2), [0, 2]))
        self.assertEqual(self.press("hear, b me"), ((0, 2), [0]))
        self.assertEqual(self.press("hear", 1), ((0, 1), [0, 1]))

    def test_who_is_at_no_place_between_two_deeds_does_not_hear(self):
        self.assertEqual(self.press("a none, a me", 0), ((0, 1), [1]))
        self.assertEqual(self.press("b none, a me", 1), ((1, None), []))
        self.assertEqual(self.press("a none, a some", 2, (0,)), ((0, 1), [1]))
        self.assertEqual(self.press("a some, a me", 0, (3,)), ((0, 1), [1]))

    def test_deeds_come_one_behind_the_other(self):
        self.assertEqual(self.press("swap, a none"), ((None, 0), [0]))
        self.assertEqual(self.press("a me, swap"), ((1, 2), [1]))
        self.assertEqual(self.press("b none, swap, a me, hear"), ((2, 0), [0, 2]))


class OtherLines(Case):
    def behind(self, deeds, *events):
        house = house_of(3, "free talk", "put hear do", "key put: a me, stand talk", "key hear: hear",
                         f"key do: {deeds}", "call: stand talk", "late: part")
        return behind(house, 3, *events)

    def test_hear_takes_the_phone_off_another_line(self):
        way = (("key", "put", 0, 0, ()), ("key", "put", 0, 1, ()), ("key", "hear", 0, 0, ()))
        self.assertEqual(self.behind("deaf", *way).ears, (0, None, None))
        moment = self.behind("deaf", *way, ("key", "hear", 0, 1, ()))
        self.stands_so(moment, ("talk", "talk", "free"), (False,) * 3, ((0, None), (0, None), NOBODY), (None,) * 3,
                       (1, None, None))

    def test_hear_without_a_place_leaves_all_as_it_was(self):
        way = (("key", "put", 0, 0, ()), ("key", "hear", 0, 0, ()), ("key", "put", 1, 1, ()))
        self.assertEqual(self.behind("deaf", *way, ("key", "hear", 0, 1, ())), self.behind("deaf", *way))

    def test_deaf_is_for_this_line_alone(self):
        way = (("key", "put", 0, 0, ()), ("key", "hear", 0, 0, ()), ("key", "put", 1, 1, ()), ("key", "hear", 1, 1, ()))
        self.assertEqual(self.behind("deaf", *way, ("key", "do", 2, 1, ())).ears, (0, None, None))
        self.assertEqual(self.behind("deaf", *way, ("key", "do", 1, 0, ())).ears, (None, 1, None))

    def test_who_leaves_this_line_still_hears_another_one(self):
        way = (("key", "put", 0, 0, ()), ("key", "put", 0, 1, ()), ("key", "hear", 0, 0, ()))
        moment = self.behind("a none", *way, ("key", "do", 0, 1, ()))
        self.assertEqual((moment.places, moment.ears), (((0, None), NOBODY, NOBODY), (0, None, None)))

    def test_join(self):
        way = (("key", "put", 0, 1, ()), ("key", "hear", 0, 1, ()), ("call", 2, ()))
        moment = self.behind("join", *way, ("key", "do", 0, 2, ()))
        self.assertEqual(moment.mates, (None, 2, 1))
        self.assertEqual(moment.ears, (1, None, None))

    def test_join_needs_another_line_that_the_presser_hears(self):
        way = (("key", "put", 0, 1, ()), ("key", "hear", 0, 1, ()), ("call", 2, ()))
        for event in (("key", "do", 1, 2, ()), ("key", "do", 0, 1, ())):
            self.assertEqual(self.behind("join", *way, event), self.behind("join", *way))

    def test_join_needs_two_lines_without_mates(self):
        way = (("key", "put", 0, 1, ()), ("key", "hear", 0, 1, ()), ("call", 2, ()), ("call", 0, ()),
               ("key", "do", 0, 2, ()))
        joined = self.behind("join", *way)
        for event in (("key", "do", 0, 0, ()), ("key", "do", 0, 2, ())):
            self.assertEqual(self.behind("join", *way, event), joined)
        further = (("key", "put", 1, 0, ()), ("key", "hear", 1, 0, ()))
        self.assertEqual(self.behind("join", *way, *further, ("key", "do", 1, 2, ())).mates, (None, 2, 1))

    def test_join_and_part(self):
        way = (("key", "put", 0, 1, ()), ("key", "hear", 0, 1, ()), ("call", 2, ()), ("key", "do", 0, 2, ()))
        for at in (1, 2):
            self.assertEqual(self.behind("join", *way, ("late", at, ())).mates, (None,) * 3)
        self.assertEqual(self.behind("join, part", *way).mates, (None,) * 3)
        self.assertEqual(self.behind("part, join", *way, way[-1]).mates, (None, 2, 1))

    def test_part_without_a_mate(self):
        way = (("key", "put", 0, 1, ()), ("key", "hear", 0, 1, ()), ("call", 2, ()), ("call", 0, ()),
               ("key", "do", 0, 2, ()))
        self.assertEqual(self.behind("join", *way, ("late", 0, ())).mates, (None, 2, 1))

    def test_a_key_does_its_deeds_whatever_the_phone_is_doing(self):
        moment = self.behind("a me", ("key", "do", 0, 0, ()))
        self.assertEqual(moment, self.behind("a me"))
        moment = self.behind("a me", ("key", "put", 0, 0, ()), ("key", "hear", 0, 0, ()), ("call", 1, ()),
                             ("key", "do", 0, 1, ()))
        self.assertEqual((moment.places, moment.ears), (((0, None), (0, None), NOBODY), (0, None, None)))


class Clearing(Case):
    def test_a_call_for_which_no_row_finds_a_stand_is_turned_away(self):
        house = house_of(1, "free talk", "", "call if not caller: stand talk")
        self.stands_so(behind(house, 2, ("call", 0, ())), ("free",), (False,), (NOBODY,), (None,), (None, None))
        house = house_of(1, "free talk", "", "call: a some, stand talk, b some, stand free")
        self.stands_so(behind(house, 2, ("call", 0, (1, 0))), ("free",), (False,), (NOBODY,), (None,), (None, None))

    def test_only_the_stand_at_last_counts(self):
        house = house_of(1, "free talk", "x", "call: a some, stand free, stand talk",
                         "key x: b me, hear, stand free, stand talk")
        moment = behind(house, 2, ("call", 0, (1,)), ("key", "x", 0, 0, ()))
        self.stands_so(moment, ("talk",), (True,), ((1, 0),), (None,), (0, None))

    def test_caller_places_ears_and_mate(self):
        house = house_of(2, "free talk", "x y z", "call: a some, stand talk", "key x: hear", "key y: join",
                         "key z: stand free", "gone: stand free", "lay if in talk: stand free", "late: stand free")
        way = (("call", 0, (2,)), ("call", 1, (0,)), ("key", "x", 2, 0, ()), ("key", "y", 2, 1, ()))
        joined = behind(house, 3, *way)
        self.assertEqual((joined.mates, joined.ears), ((1, 0), (None, None, 0)))
        for event in (("key", "z", 1, 0, ()), ("gone", 0, ()), ("lay", 2, ()), ("late", 0, ())):
            with self.subTest(event=event):
                self.stands_so(joined.after(event), ("free", "talk"), (False, True), (NOBODY, (0, None)),
                               (None, None), (None,) * 3)
        for event in (("key", "z", 2, 1, ()), ("gone", 1, ()), ("late", 1, ())):
            with self.subTest(event=event):
                self.stands_so(joined.after(event), ("talk", "free"), (True, False), ((2, None), NOBODY),
                               (None, None), (None, None, 0))

    def test_deeds_at_a_free_stand_leave_nothing_there(self):
        house = house_of(2, "free talk", "x y", "key x: a me, b some, hear, join", "key y: a me, hear, stand talk")
        self.assertEqual(behind(house, 2, ("key", "x", 0, 0, (1,))), behind(house, 2))
        talk = behind(house, 2, ("key", "y", 0, 1, ()))
        moment = talk.after(("key", "x", 0, 0, (1,)))
        self.stands_so(moment, ("free", "talk"), (False, False), (NOBODY, (0, None)), (None, None), (None, None))

    def test_a_join_from_a_free_stand_does_not_last(self):
        house = house_of(2, "free talk", "x y", "key x: join", "key y: a me, hear, stand talk")
        talk = behind(house, 2, ("key", "y", 0, 1, ()))
        self.assertEqual(talk.after(("key", "x", 0, 0, ())), talk)

    def test_the_caller_goes_and_the_line_stays(self):
        house = house_of(1, "free talk", "x", "call: a some, stand talk", "key x: hear")
        moment = behind(house, 1, ("call", 0, (0,)), ("key", "x", 0, 0, ()), ("gone", 0, ()))
        self.stands_so(moment, ("talk",), (False,), ((0, None),), (None,), (0,))


if __name__ == "__main__":
    unittest.main()
