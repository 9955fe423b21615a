"""The questions: shapes, first, stuck, called_away, most, unused."""

import unittest

import model
from cases import Case, house_of
from holdhouse import questions
from holdhouse.moments import begin, play
from holdhouse.questions import called_away, first, most, shapes, stuck, unused
from holdhouse.samples import joining_house, lost_house, sample_house

TALK = "key x: a me, hear, stand talk"


class Asked(Case):
    """Weavings are any of the shortest, so their numbers are compared, and what they lead to."""

    def numbers(self, weaving):
        self.assertIs(type(weaving), tuple)
        self.assertIs(type(weaving[1]), tuple)
        return weaving[0], len(weaving[1])

    def first_is(self, house, picture, phones, events):
        found = first(house, picture)
        self.assertEqual(self.numbers(found), (phones, events))
        end = play(house, found)
        self.assertTrue(any(end.shows(line, picture) for line in range(house.lines)))

    def stuck_is(self, house, picture, goal, phones, events):
        found = stuck(house, picture, goal)
        self.assertEqual(self.numbers(found), (phones, events))
        end = model.now_of(play(house, found))
        web = model.Web(house, phones)
        self.assertTrue(any(model.shape(end) not in web.can(line, goal) for line in model.shown_lines(end, picture)))

    def away_is(self, house, phones, events):
        found = called_away(house)
        self.assertEqual(self.numbers(found), (phones, events))
        ahead, behind = play(house, (phones, found[1][:-1])), play(house, found)
        self.assertTrue(model.away(model.now_of(ahead), model.now_of(behind), found[1][-1]))


class Defined(unittest.TestCase):
    def test_in_their_file(self):
        for name in ("shapes", "first", "stuck", "called_away", "most", "unused"):
            self.assertEqual(getattr(questions, name).__module__, "holdhouse.questions")


class Shapes(Case):
    def are(self, house, phones, expected):
        found = shapes(house, phones)
        self.assertIs(type(found), tuple)
        self.assertEqual(len(set(found)), len(found))
        self.assertEqual(sorted(map(repr, found)), sorted(map(repr, expected)))

    def test_sample_house(self):
        free = (("free", False, None, None, None),), ()
        ring, held = [((stand, True, 0, None, None),) for stand in ("ring", "held")]
        talk = (("talk", True, 0, None, None),)
        for phones in range(1, 21):
            self.are(sample_house(), phones, [free, (ring, (None,)), (talk, (0,)), (held, (None,))])

    def test_by_name(self):
        self.assertEqual(shapes(phones=2, house=sample_house()), shapes(sample_house(), 2))

    def test_no_events_that_do_anything(self):
        self.are(house_of(3, "free talk", ""), 20, [((("free", False, None, None, None),) * 3, ())])
        self.are(house_of(1, "free talk", "x", "gone: stand talk"), 7, [((("free", False, None, None, None),), ())])

    def test_shapes_that_come_with_few_phones_alone(self):
        house = house_of(1, "free talk", "", "call: a some, b some, stand talk")
        free = (("free", False, None, None, None),), ()
        talk = [((("talk", caller, 0, 1, None),), (None, None)) for caller in (True, False)]
        alone = [((("talk", caller, 0, None, None),), (None,)) for caller in (True, False)]
        self.are(house, 1, [free, *alone])
        for phones in (2, 3, 4, 5, 20):
            self.are(house, phones, [free, *talk])

    def test_the_presser_is_one_phone_more(self):
        # With as many phones as places, and with one more, somebody is missing for some of the deeds.
        house = house_of(1, "free talk", "x", "call: a some, b some, stand talk", "key x if a and b: a some")
        empty = (("talk", True, None, 0, None),), (None,)
        for phones, comes in ((1, False), (2, True), (3, True), (4, False), (5, False), (20, False)):
            with self.subTest(phones=phones):
                self.assertIs(empty in shapes(house, phones), comes)

    def test_each_shape_is_that_of_a_moment(self):
        house = joining_house()
        for phones in (1, 2, 6, 9):
            seen, waiting = {}, [begin(house, phones)]
            while waiting:
                moment = waiting.pop()
                if moment.shape not in seen:
                    seen[moment.shape] = True
                    waiting.extend(moment.after(event) for event in moment.events())
            self.are(house, phones, list(seen))


class First(Asked):
    def test_sample_house(self):
        house = sample_house()
        self.assertEqual(first(house, "in free"), (1, ()))
        self.first_is(house, "caller", 1, 1)
        self.first_is(house, "in ring and a and not ear a", 1, 1)
        self.first_is(house, "voice", 1, 2)
        self.first_is(house, "in held and caller and a and not voice", 1, 3)

    def test_what_never_comes(self):
        house = sample_house()
        for picture in ("voice and not caller", "b", "joined", "stranger", "in free and caller", "a and not a",
                        "in talk and not voice", "in held and voice", "caller and not a"):
            with self.subTest(picture=picture):
                self.assertIs(first(house, picture), None)

    def test_by_name(self):
        self.assertEqual(first(picture="in ring", house=sample_house()), (1, (("call", 0, (0,)),)))

    def test_any_line(self):
        house = house_of(2, "free talk held", "x y", TALK, "key y if busy: stand held")
        self.first_is(house, "in held", 1, 2)
        self.first_is(house, "in held and not voice", 1, 2)

    def test_fewest_phones_come_before_fewest_events(self):
        house = house_of(1, "free ring talk", "x y", "call: a some, stand ring",
                         "key x if in ring and not a: stand talk", "key y if a and not me a: stand talk",
                         "gone: a none")
        self.first_is(house, "in talk", 1, 3)
        self.first_is(house.without(3), "in talk", 2, 2)

    def test_more_phones(self):
        house = house_of(1, "free ring talk", "x y", "call: a some, stand ring", "key x if a and not me a: b me",
                         "key y if not me a and not me b and a and b: stand talk")
        self.first_is(house, "b", 2, 2)
        self.first_is(house, "in talk", 3, 3)
        house = house_of(1, "free ring talk held", "x", "call: a some, b some, stand ring",
                         "key x if in ring and b and not me b and not me a: a some, stand talk",
                         "late if in talk and a: stand held")
        self.first_is(house, "in talk", 3, 2)
        self.first_is(house, "in talk and not a", 3, 2)
        self.first_is(house, "in talk and a", 4, 2)
        self.first_is(house, "in held", 4, 3)

    def test_phones_whose_numbers_in_the_shape_become_others(self):
        # Phone 0 is at b, and then another one comes to a, so phone 0 is the second one of the shape.
        rows = ("call: b some, stand ring", "key x if in ring and me b: hear, stand talk",
                "late if in talk and not a: a some")
        house = house_of(1, "free ring talk held", "x y", *rows, "lay if a and me b: stand held")
        self.first_is(house, "in held", 2, 4)
        house = house_of(1, "free ring talk held", "x y", *rows, "key y if a and me b: stand held")
        self.first_is(house, "in held", 2, 4)
        house = house_of(1, "free ring talk held", "", "call: b some, stand ring",
                         "late if in ring: a some, b none, stand talk", "late if in talk: b some, stand held")
        self.first_is(house, "in held and a and b", 2, 3)

    def test_what_comes_with_few_phones_alone(self):
        house = house_of(1, "free ring", "", "call: a some, b some, stand ring")
        self.first_is(house, "a and not b", 1, 1)
        self.first_is(house, "b", 2, 1)

    def test_two_lines(self):
        self.first_is(joining_house(), "joined", 1, 4)
        self.first_is(joining_house(), "stranger and not voice", 1, 5)
        self.first_is(joining_house(), "joined and in ring and a", 2, 4)
        self.assertIs(first(joining_house(), "joined and in free"), None)

    def test_three_lines(self):
        house = house_of(3, "free talk", "x y", "call: stand talk", TALK, "key y: join")
        self.first_is(house, "stranger and not voice", 1, 4)
        self.first_is(house, "stranger and caller and a", 1, 4)
        self.first_is(house, "stranger and caller and not voice", 1, 5)


class Stuck(Asked):
    def test_sample_and_lost_house(self):
        self.assertIs(stuck(sample_house(), "caller and not voice", "voice"), None)
        self.assertEqual(stuck(lost_house(), "caller and not voice", "voice"), first(lost_house(), "in held"))
        self.stuck_is(lost_house(), "caller and not voice", "voice", 1, 3)
        self.assertIs(stuck(lost_house(), "in ring", "voice"), None)

    def test_by_name(self):
        self.assertEqual(stuck(goal="voice", picture="in held", house=lost_house()),
                         (1, (("call", 0, (0,)), ("key", "take", 0, 0, ()), ("key", "hold", 0, 0, ()))))

    def test_the_picture_and_the_goal_are_not_exchanged(self):
        self.assertIs(stuck(lost_house(), "voice", "in held"), None)
        self.stuck_is(lost_house(), "in held", "voice", 1, 3)

    def test_a_picture_that_shows_the_goal_or_never_comes(self):
        self.assertIs(stuck(sample_house(), "in held", "a"), None)
        self.assertIs(stuck(sample_house(), "b", "voice"), None)
        self.assertEqual(stuck(sample_house(), "in free", "b"), (1, ()))

    def test_calls_and_gones_are_not_calm(self):
        house = house_of(1, "free talk", "", "call: stand talk", "gone: stand free")
        self.assertEqual(stuck(house, "in free", "in talk"), (1, ()))
        self.stuck_is(house, "in talk", "in free", 1, 1)

    def test_each_calm_event(self):
        house = house_of(1, "free talk held", "x", TALK, "lay: stand held", "late if in held: stand free")
        self.assertIs(stuck(house, "in free", "in talk"), None)
        self.assertIs(stuck(house, "in talk", "in held"), None)
        self.assertIs(stuck(house, "in held", "in free"), None)

    def test_the_line_is_not_at_its_free_stand_between(self):
        house = house_of(1, "free ring talk", "x y", "call: stand ring", "key x if in free: stand talk",
                         "key y: stand free")
        self.stuck_is(house, "in ring", "in talk", 1, 1)
        self.assertIs(stuck(house, "in free", "in talk"), None)
        self.assertIs(stuck(house, "in ring", "in free"), None)
        self.assertIs(stuck(house, "in talk", "in free and not caller"), None)

    def test_other_lines_may_be_at_their_free_stands(self):
        house = house_of(2, "free ring talk", "x y", "call: stand ring", TALK, "key y if busy: stand talk",
                         "lay: stand free")
        self.assertIs(stuck(house, "in ring", "in talk"), None)

    def test_a_line_at_its_free_stand_may_not_wait_there_for_another_one(self):
        # Line 0 goes on to the goal only when a phone hears line 1, and that takes an event at line 1 first.
        house = house_of(2, "free ring held", "x y", "key x if in free and not busy: a me, hear, stand ring",
                         "key y if in free and busy: stand held")
        self.first_is(house, "in held", 1, 2)
        self.assertEqual(stuck(house, "in free", "in held"), (1, ()))
        self.assertIs(stuck(house.changed(1, "key y if in free: stand held"), "in free", "in held"), None)

    def test_the_line_that_shows_the_picture_is_that_of_the_goal(self):
        house = house_of(2, "free ring talk", "x", "call: a some, stand ring", "key x if busy: stand talk",
                         "key x if not busy and me a: hear")
        self.stuck_is(house, "in talk", "in ring", 1, 3)
        self.stuck_is(house, "voice", "in talk", 1, 2)

    def test_with_more_phones_alone(self):
        house = house_of(1, "free ring held talk", "x y", "call: a some, stand ring",
                         "key x if in ring and not me a: stand held", "key y if in ring: stand talk",
                         "key y if in held and b: stand talk")
        self.stuck_is(house, "caller", "in talk", 2, 2)
        self.assertIs(stuck(house, "caller and in ring", "in talk"), None)

    def test_with_few_phones_alone(self):
        house = house_of(1, "free ring talk", "x", "call: a some, b some, stand ring",
                         "key x if in ring and a and b: stand talk")
        self.stuck_is(house, "in ring", "in talk", 1, 1)

    def test_fewest_events(self):
        house = house_of(1, "free ring talk held", "x", "call: stand ring", "key x if in ring: stand talk",
                         "key x if in talk: stand held")
        self.stuck_is(house, "not in free", "in ring", 1, 2)
        self.stuck_is(house, "caller", "a", 1, 1)


class CalledAway(Asked):
    def test_the_houses_of_the_document(self):
        for house in (sample_house(), lost_house(), joining_house()):
            self.assertIs(called_away(house), None)
        self.away_is(sample_house().changed(3, "key take if not in free: a me, hear, stand talk"), 2, 3)
        self.assertEqual(called_away(house=sample_house()), None)

    def test_an_own_key_or_lay_calls_nobody_away(self):
        house = house_of(1, "free talk", "x y", "call: stand talk", "key x if not a: a me, hear", "key y: deaf",
                         "lay: deaf")
        self.away_is(house, 2, 3)
        self.assertIs(called_away(house.changed(2, "key y if me a: deaf")), None)

    def test_each_deed_that_takes_the_ear_off(self):
        for deed, phones in (("deaf", 2), ("a none", 2), ("a me", 2), ("a some", 2)):
            house = house_of(1, "free talk", "x y", "call: stand talk", "key x if not a: a me, hear",
                             f"key y if not me a: {deed}")
            with self.subTest(deed=deed):
                self.away_is(house, phones, 3)

    def test_a_late_and_a_lay_of_another_phone(self):
        house = house_of(1, "free talk", "x", "call: stand talk", "key x if not a: a me, hear", "late: deaf")
        self.away_is(house, 1, 3)
        house = house_of(1, "free talk", "x y", "call: stand talk", "key x if not a: a me, hear",
                         "key y if not me a and not b: b me, hear", "lay: deaf")
        self.away_is(house, 2, 4)

    def test_a_caller_ahead_and_behind(self):
        rows = ("call: stand talk", "key x if not a: a me, hear, stand talk")
        self.assertIs(called_away(house_of(1, "free talk", "x", *rows, "gone: deaf")), None)
        self.assertIs(called_away(house_of(1, "free talk", "x", *rows, "late: stand free")), None)
        self.assertIs(called_away(house_of(1, "free talk", "x", *rows, "late if not caller: deaf")), None)
        self.away_is(house_of(1, "free talk", "x", *rows, "late if caller: deaf"), 1, 3)

    def test_the_same_shape_ahead_and_behind(self):
        house = house_of(1, "free talk", "x", "call: stand talk", "key x: a me, hear")
        self.away_is(house, 2, 3)

    def test_off_another_line_by_the_own_key(self):
        house = house_of(2, "free talk", "x", "call: stand talk", "key x if not a: a me, hear")
        self.assertIs(called_away(house), None)

    def test_a_swap_and_a_change_of_places_call_nobody_away(self):
        house = house_of(1, "free talk", "x y", "call: stand talk", "key x if not a and not b: a me, hear",
                         "key y: swap", "late: swap")
        self.assertIs(called_away(house), None)


class Most(Case):
    def test_each_number_of_lines(self):
        for lines in (1, 2, 3):
            house = house_of(lines, "free talk", "", "call: stand talk")
            self.assertEqual(most(house, "in talk"), lines)
            self.assertEqual(most(house, "in free"), lines)
            self.assertEqual(most(house, "in free and caller"), 0)

    def test_at_one_moment(self):
        self.assertEqual(most(sample_house(), "caller"), 1)
        self.assertEqual(most(joining_house(), "stranger"), 2)
        house = house_of(3, "free talk", "x", TALK, "key x: a me, hear")
        self.assertEqual(most(house, "voice"), 3)
        self.assertEqual(most(house_of(3, "free talk", "x", "call: a some, stand talk", "late: stand free"), "a"), 3)

    def test_with_few_phones_alone(self):
        house = house_of(2, "free talk", "", "call: a some, stand talk")
        self.assertEqual(most(house, "in talk and not a"), 1)
        house = house_of(3, "free talk", "", "call: a some, b some, stand talk")
        self.assertEqual([most(house, "not in free and not b"), most(house, "a and b")], [3, 3])
        self.assertEqual(most(house, "a and not b"), 1)

    def test_what_would_come_with_more_phones_behind_what_comes_with_few(self):
        house = house_of(1, "free ring talk", "x", "call: a some, b some, stand ring",
                         "key x if a and not b: b some, stand talk")
        self.assertEqual([most(house, picture) for picture in ("in talk", "in talk and a", "in talk and b")], [1, 1, 0])
        self.assertEqual(first(house, "in talk and b"), None)
        self.assertEqual([len(shapes(house, phones)) for phones in (1, 2, 3)], [5, 3, 3])

    def test_joined_lines(self):
        house = house_of(3, "free talk", "x y", "call: stand talk", TALK, "key y: join")
        self.assertEqual(most(house, "joined"), 2)

    def test_by_name(self):
        self.assertEqual(most(picture="caller", house=joining_house()), 2)


class Unused(Case):
    def test_the_houses_of_the_document(self):
        self.assertEqual(unused(sample_house()), ())
        self.assertEqual(unused(lost_house()), (3,))
        self.assertEqual(unused(house=joining_house()), ())

    def test_no_rows(self):
        self.assertEqual(unused(house_of(3, "free talk", "x y")), ())

    def test_rows_behind_others(self):
        house = house_of(1, "free talk", "x", "call: stand talk", "call: stand free", "late if a: deaf", "late: deaf",
                         "late if not a: deaf", "key x: deaf", "key x: stand free", "lay: deaf")
        self.assertEqual(unused(house), (1, 2, 4, 6, 7))

    def test_rows_that_change_nothing_do_their_deeds(self):
        house = house_of(1, "free talk", "x", "key x if in free: stand free", "call: deaf", "late: swap")
        self.assertEqual(unused(house), (2,))

    def test_rows_for_some_numbers_of_phones_alone(self):
        house = house_of(1, "free talk", "x", "call: a some, b some, stand talk", "late if a and not b: deaf",
                         "late if a and b: deaf", "late if b and not a: deaf",
                         "key x if a and b and not me a and not me b: a some", "key x if caller: deaf")
        self.assertEqual(unused(house), ())
        self.assertEqual(unused(house.without(4)), (3,))

    def test_many_rows(self):
        house = house_of(1, "free talk", "", *["gone: deaf"] * 16)
        self.assertEqual(unused(house), tuple(range(16)))
        self.assertEqual(unused(house.changed(7, "call: stand talk")), (1, 2, 3, 4, 5, 6, *range(8, 16)))


if __name__ == "__main__":
    unittest.main()
