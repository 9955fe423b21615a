"""Moment.events and Moment.after: which events can be made, with which picks."""

import unittest
from unittest import mock

from cases import Case, behind, house_of
from examples import OTHER_THINGS, bent
from holdhouse.errors import InvalidEvent
from holdhouse.moments import begin
from holdhouse.samples import joining_house, sample_house


def kinds(moment):
    """The events of a moment without those of keys."""
    return tuple(event for event in moment.events() if event[0] != "key")


class Events(Case):
    def all_can_be_made(self, moment):
        events = moment.events()
        self.assertIs(type(events), tuple)
        self.assertEqual(list(events), sorted(set(events)))
        for event in events:
            moment.after(event)
        return events

    def test_calls_at_free_stands_alone(self):
        house = house_of(2, "idle talk", "", "call: stand talk")
        self.assertEqual(begin(house).events(), (("call", 0, ()), ("call", 1, ())))
        self.assertEqual(behind(house, 1, ("call", 1, ())).events(), (("call", 0, ()), ("gone", 1, ()),
                                                                      ("late", 1, ())))

    def test_gone_with_a_caller_alone(self):
        house = house_of(1, "idle talk", "", "call: stand talk", "gone: deaf")
        moment = behind(house, 1, ("call", 0, ()))
        self.assertEqual(moment.events(), (("gone", 0, ()), ("late", 0, ())))
        self.assertEqual(moment.after(("gone", 0, ())).events(), (("late", 0, ()),))

    def test_the_free_stand_is_the_first_one(self):
        house = house_of(1, "talk free", "", "call: stand free")
        self.assertEqual(begin(house).events(), (("call", 0, ()),))
        self.assertEqual(kinds(behind(house, 1, ("call", 0, ()))), (("gone", 0, ()), ("late", 0, ())))

    def test_lay_of_hearing_phones_alone(self):
        house = joining_house()
        moment = behind(house, 3, ("call", 0, (1,)), ("call", 1, (2,)))
        self.assertEqual([event for event in moment.events() if event[0] == "lay"], [])
        moment = moment.after(("key", "take", 2, 1, ()))
        self.assertEqual([event for event in moment.events() if event[0] == "lay"], [("lay", 2, ())])

    def test_each_key_for_each_phone_and_line(self):
        house = house_of(2, "idle talk", "z a m", "call: stand talk")
        for moment in (begin(house, 2), behind(house, 2, ("call", 1, ()))):
            found = [event for event in self.all_can_be_made(moment) if event[0] == "key"]
            self.assertEqual(found, [("key", key, phone, line, ())
                                     for key in "amz" for phone in (0, 1) for line in (0, 1)])

    def test_one_pick_for_each_deed_that_finds_a_loose_phone(self):
        house = house_of(1, "idle talk", "", "call: a some, b some, stand talk")
        self.assertEqual(begin(house, 1).events(), (("call", 0, (0,)),))
        self.assertEqual(begin(house, 2).events(), (("call", 0, (0, 1)), ("call", 0, (1, 0))))
        self.assertEqual([event[2] for event in begin(house, 3).events()],
                         [(0, 1), (0, 2), (1, 0), (1, 2), (2, 0), (2, 1)])

    def test_four_picks_of_twenty_phones(self):
        house = house_of(1, "idle talk", "", "call: stand talk", "late: a some, b some, a some, b some")
        found = kinds(behind(house, 4, ("call", 0, ())))[1:]
        self.assertEqual(len(found), 4 * 3 * 2 * 2)
        self.assertIn(("late", 0, (0, 1, 2, 0)), found)
        self.assertNotIn(("late", 0, (0, 1, 0, 2)), found)
        moment = behind(house, 20, ("call", 0, ()), ("late", 0, (19, 0, 7, 19)))
        self.assertEqual(moment.places, ((7, 19),))
        self.assertEqual(len(begin(house_of(1, "idle talk", "", "call: a some, b some, stand talk"), 20).events()),
                         20 * 19)

    def test_a_phone_that_became_loose_by_an_earlier_deed(self):
        house = house_of(1, "idle talk", "", "call: a some, stand talk", "late: a none, a some")
        moment = behind(house, 2, ("call", 0, (1,)))
        self.assertEqual(kinds(moment)[1:], (("late", 0, (0,)), ("late", 0, (1,))))
        house = house_of(1, "idle talk", "", "call: a some, stand talk", "late: a some, a some")
        moment = behind(house, 2, ("call", 0, (1,)))
        self.assertEqual(kinds(moment)[1:], (("late", 0, (0, 1)),))
        self.assertEqual(moment.after(("late", 0, (0, 1))).places, ((1, None),))
        self.assertEqual(behind(house, 1, ("call", 0, (0,))).after(("late", 0, (0,))).places, ((0, None),))

    def test_the_presser_of_a_key_never_comes_by_some(self):
        house = house_of(1, "idle talk", "x", "key x: a some, stand talk")
        self.assertEqual(begin(house, 3).events()[1:],
                         tuple(("key", "x", phone, 0, (other,)) for phone in range(3) for other in range(3)
                               if other != phone))
        self.assertEqual(begin(house, 1).events(), (("call", 0, ()), ("key", "x", 0, 0, ())))
        self.assertEqual(begin(house, 1).after(("key", "x", 0, 0, ())).places, ((None, None),))

    def test_the_one_who_lays_never_comes_by_some(self):
        house = house_of(1, "idle talk", "x", "key x: a me, hear, stand talk", "lay: a none, b some")
        moment = behind(house, 3, ("key", "x", 1, 0, ()))
        self.assertEqual(kinds(moment), (("late", 0, ()), ("lay", 1, (0,)), ("lay", 1, (2,))))
        self.assertEqual(kinds(behind(house, 1, ("key", "x", 0, 0, ()))), (("late", 0, ()), ("lay", 0, ())))

    def test_phones_at_places_of_other_lines_are_not_loose(self):
        house = joining_house()
        self.assertEqual(kinds(behind(house, 3, ("call", 1, (1,)))),
                         (("call", 0, (0,)), ("call", 0, (2,)), ("gone", 1, ()), ("late", 1, ())))
        self.assertEqual(kinds(behind(house, 1, ("call", 1, (0,)))),
                         (("call", 0, ()), ("gone", 1, ()), ("late", 1, ())))

    def test_without_a_row_there_are_no_picks(self):
        house = house_of(1, "idle talk", "x", "call if joined: a some, stand talk", "key x if me a: b some")
        self.assertEqual(begin(house, 2).events(), (("call", 0, ()), ("key", "x", 0, 0, ()), ("key", "x", 1, 0, ())))

    def test_three_lines(self):
        house = house_of(3, "idle talk", "x", "call: b some, stand talk", "key x: hear, join")
        moment = behind(house, 3, ("call", 2, (0,)), ("call", 1, (1,)), ("key", "x", 0, 2, ()))
        self.all_can_be_made(moment)
        self.assertEqual(kinds(moment),
                         (("call", 0, (2,)), ("gone", 1, ()), ("gone", 2, ()), ("late", 1, ()), ("late", 2, ()),
                          ("lay", 0, ())))


class After(Case):
    def test_by_position_and_by_name(self):
        moment = begin(sample_house(), 2)
        self.assertEqual(moment.after(event=("call", 0, (1,))), moment.after(("call", 0, (1,))))

    def no_event(self, moment, event):
        before = (moment.shape, moment.places, moment.ears)
        self.raises(InvalidEvent, "given", event, moment.after, event)
        self.raises(InvalidEvent, "given", event, moment.after, event=event)
        self.assertEqual((moment.shape, moment.places, moment.ears), before)

    def test_things_of_other_kinds(self):
        moment = begin(sample_house(), 2)
        for thing in OTHER_THINGS + (0, 1, "", "call", (), ((),), ("call",), ((), ()), (0, 0, (1,)), mock.ANY,
                                     (mock.ANY,), (mock.ANY, mock.ANY, mock.ANY), ("call", mock.ANY, (1,)),
                                     (mock.ANY, 0, (1,)), ("call", 0, mock.ANY), ("call", 0, (mock.ANY,)),
                                     moment, sample_house(), (("call", 0, (1,)),), ("call", (0,), (1,))):
            with self.subTest(thing=thing):
                self.no_event(moment, thing)

    def test_pieces_of_other_kinds(self):
        moment = behind(sample_house(), 2, ("call", 0, (1,)), ("key", "take", 1, 0, ()))
        for event in (("gone", 0, ()), ("late", 0, ()), ("lay", 1, ()), ("key", "hold", 1, 0, ())):
            moment.after(event)
            for at in range(len(event)):
                for wrong in OTHER_THINGS + ("", "x", -1, 2, 10 ** 39, ((),), (0,), (1,), (2,), [1], mock.ANY):
                    with self.subTest(event=event, at=at, wrong=wrong):
                        self.no_event(moment, event[:at] + (wrong,) + event[at + 1:])
                self.no_event(moment, event[:at] + event[at + 1:])
                self.no_event(moment, event[:at] + (event[at],) + event[at:])
            self.no_event(moment, list(event))
            self.no_event(moment, event[:-1] + ([],))

    def test_truth_values_are_no_integers(self):
        moment = begin(joining_house(), 2)
        moment.after(("call", 1, (1,)))
        for event in (("call", True, (1,)), ("call", 1, (True,)), ("call", False, (1,)), ("call", 0, (False,)),
                      ("key", "take", True, 0, ()), ("key", "take", 0, True, ()), ("key", "take", False, False, ())):
            with self.subTest(event=event):
                self.no_event(moment, event)

    def test_events_that_cannot_be_made_now(self):
        start = begin(sample_house(), 2)
        ring = start.after(("call", 0, (1,)))
        talk = ring.after(("key", "take", 1, 0, ()))
        for event in (("gone", 0, ()), ("late", 0, ()), ("lay", 0, ()), ("lay", 1, ()), ("call", 1, (1,)),
                      ("call", -1, (1,)), ("key", "join", 0, 0, ()), ("key", "hold", 2, 0, ()),
                      ("key", "hold", -1, 0, ()), ("key", "hold", 0, 1, ()), ("key", "hold", 0, -1, ())):
            self.no_event(start, event)
        for event in (("call", 0, (0,)), ("call", 0, ()), ("lay", 1, ())):
            self.no_event(ring, event)
        self.no_event(talk, ("lay", 0, ()))
        self.no_event(talk.after(("lay", 1, ())), ("lay", 1, ()))

    def test_picks_that_do_not_fit(self):
        start = begin(sample_house(), 2)
        for picks in ((), (0, 1), (1, 0), (0, 0), (2,), (-1,), (20,), ("0",), ((0,),), (None,), [0], 0, None, "0"):
            self.no_event(start, ("call", 0, picks))
        ring = start.after(("call", 0, (1,)))
        for event in (("gone", 0, (0,)), ("late", 0, (0,)), ("key", "take", 1, 0, (0,))):
            self.no_event(ring, event)
        house = house_of(1, "idle talk", "x", "key x: a some, stand talk")
        for picks in ((), (1,), (0, 2), (3,)):
            self.no_event(begin(house, 3), ("key", "x", 1, 0, picks))

    def test_picks_for_two_deeds(self):
        house = house_of(1, "idle talk", "", "call: a some, b some, stand talk")
        moment = begin(house, 3)
        for picks in ((), (0,), (0, 0), (2, 2), (0, 1, 2), (0, 3), (3, 0), (-1, 0)):
            self.no_event(moment, ("call", 0, picks))
        self.no_event(begin(house, 1), ("call", 0, (0, 0)))
        self.assertEqual(moment.after(("call", 0, (2, 0))).places, ((2, 0),))

    def test_what_is_not_among_the_events_cannot_be_made(self):
        house = house_of(2, "idle talk", "x", "call: b some, stand talk", "key x: hear, a some")
        for moment in (begin(house, 2), behind(house, 2, ("call", 0, (1,)), ("key", "x", 1, 0, (0,)))):
            events = moment.events()
            numbers = range(-1, 3)
            picks = ((), (0,), (1,), (0, 1), (1, 0))
            asked = [(kind, at, some) for kind in ("call", "gone", "late", "lay") for at in numbers for some in picks]
            asked += [("key", "x", phone, at, some) for phone in numbers for at in numbers for some in picks]
            for event in asked:
                if event in events:
                    moment.after(event)
                else:
                    self.no_event(moment, event)

    def test_bent_words(self):
        moment = behind(sample_house(), 2, ("call", 0, (1,)), ("key", "take", 1, 0, ()))
        for word in {*bent("late", " ak"), *bent("gone", " ak"), "key", "call", "lay hold", "LATE"}:
            if word not in ("late", "gone"):
                self.no_event(moment, (word, 0, ()))
        for word in set(bent("hold", " ak")) - {"hold"}:
            self.no_event(moment, ("key", word, 1, 0, ()))


if __name__ == "__main__":
    unittest.main()
