"""play and hearing."""

import unittest
from unittest import mock

from cases import NO_HOUSES, NO_INTEGERS, Case, behind, house_of
from examples import OTHER_THINGS
from holdhouse.errors import InvalidNumber, InvalidWeaving, NotAHouse
from holdhouse.houses import House
from holdhouse.moments import begin, hearing, play
from holdhouse.samples import joining_house, sample_house

CALL = ("call", 0, (1,))
TAKE = ("key", "take", 1, 0, ())
HOLD = ("key", "hold", 1, 0, ())
BACK = ("key", "take", 0, 0, ())
TALK = (CALL, TAKE, HOLD, BACK)

NO_WEAVINGS = OTHER_THINGS + (
    0, 1, "", "ab", (), (1,), ((),), (1, (), ()), [1, ()], (1, []), (1, None), (1, ""), (1, {}), (1, 0), ((), 1),
    (0, ()), (21, ()), (-1, ()), (10 ** 39, ()), (True, ()), (None, ()), ("1", ()), ((1,), ()), (mock.ANY, ()),
    (1, mock.ANY), mock.ANY, sample_house(), begin(sample_house()), (0, (("call", 0, (0,)),)))


class Play(Case):
    def test_each_piece_of_a_weaving(self):
        moment = begin(sample_house(), 2)
        for many in range(5):
            self.assertEqual(play(sample_house(), (2, TALK[:many])), moment)
            if many < 4:
                moment = moment.after(TALK[many])

    def test_by_name(self):
        self.assertEqual(play(weaving=(2, TALK), house=sample_house()), behind(sample_house(), 2, *TALK))
        self.assertEqual(play(sample_house(), weaving=(2, ())), begin(sample_house(), 2))

    def test_each_number_of_phones(self):
        for phones in range(1, 21):
            moment = play(sample_house(), (phones, (("call", 0, (phones - 1,)),)))
            self.assertEqual((moment.phones, moment.places), (phones, ((phones - 1, None),)))

    def test_many_events(self):
        turn = TALK + (("gone", 0, ()),)
        self.assertEqual(play(sample_house(), (2, turn * 200)), begin(sample_house(), 2))


class Hearing(Case):
    def hears(self, words, *events, house=None, line=0, phones=2):
        house = house or sample_house()
        self.assertEqual(hearing(house, (phones, events), line), words)

    def test_as_far_as_the_weaving_goes(self):
        words = ("tone", "voice", "music", "voice")
        for many in range(5):
            self.hears(words[:many], *TALK[:many])

    def test_by_name(self):
        self.assertEqual(hearing(line=0, weaving=(2, TALK), house=sample_house()),
                         ("tone", "voice", "music", "voice"))

    def test_gone_and_over(self):
        self.hears(("tone", "gone"), CALL, ("gone", 0, ()))
        self.hears(("tone", "voice", "gone"), CALL, TAKE, ("gone", 0, ()))
        self.hears(("tone", "voice", "over"), CALL, TAKE, ("lay", 1, ()))

    def test_gone_where_the_line_stays(self):
        house = house_of(1, "free talk", "x", "call: stand talk", "late: stand free", "key x: a me, hear")
        way = (("call", 0, ()), ("gone", 0, ()))
        self.hears(("klat", "gone"), *way, house=house)
        self.hears(("klat", "gone"), *way, ("key", "x", 0, 0, ()), house=house)
        self.hears(("klat", "gone"), *way, ("late", 0, ()), house=house)
        self.hears(("klat",), *way, ("late", 0, ()), ("call", 0, ()), house=house)

    def test_over_by_a_late_and_by_a_key(self):
        house = house_of(1, "free talk", "x", "call: stand talk", "late: stand free", "key x: stand free")
        for event in (("late", 0, ()), ("key", "x", 1, 0, ())):
            self.hears(("klat", "over"), ("call", 0, ()), event, house=house)
            self.hears(("klat", "over"), ("call", 0, ()), event, ("key", "x", 0, 0, ()), house=house)

    def test_no_call(self):
        self.hears(())
        self.hears((), ("key", "hold", 0, 0, ()), ("key", "take", 0, 0, ()))

    def test_calls_that_were_turned_away(self):
        house = house_of(1, "free talk", "", "gone: stand free")
        self.hears((), ("call", 0, ()), ("call", 0, ()), house=house)
        house = house_of(1, "free talk", "put", "call if a: stand talk", "key put: a me")
        self.hears((), ("call", 0, ()), house=house)

    def test_the_last_call_that_was_not_turned_away(self):
        house = house_of(2, "free talk held", "x", "call: a some, stand talk", "late: a none, stand held",
                         "gone: stand free")
        self.hears(("klat",), ("call", 0, (0,)), ("gone", 0, ()), ("call", 0, (1,)), house=house)
        self.hears(("klat", "dleh", "gone"), ("call", 0, (0,)), ("gone", 0, ()), ("call", 0, (1,)), ("late", 0, ()),
                   ("gone", 0, ()), house=house)

    def test_a_word_more_only_when_it_becomes_another_one(self):
        house = house_of(1, "free talk held", "x y", "call: stand talk", "key x if in talk: stand held",
                         "key x: stand talk", "key y: a me, hear")
        ask = ("key", "x", 0, 0, ())
        self.hears(("klat", "dleh", "klat", "dleh"), ("call", 0, ()), ask, ask, ask, house=house)
        hear = ("key", "y", 0, 0, ())
        self.hears(("klat", "voice"), ("call", 0, ()), hear, hear, ask, ask, house=house)
        self.hears(("klat", "voice", "dleh"), ("call", 0, ()), hear, ask, ("lay", 0, ()), house=house)

    def test_stands_of_the_same_sound(self):
        pairs = (("free", "quiet"), ("talk", "tone"), ("held", "tone"))
        house = House(1, pairs, ("x",), ("call: stand talk", "key x: stand held"))
        self.hears(("tone",), ("call", 0, ()), ("key", "x", 0, 0, ()), house=house)

    def test_words_by_events_of_other_lines(self):
        ring = (("call", 0, (0,)), ("call", 1, (1,)), ("key", "take", 0, 0, ()))
        joined = ring + (("key", "join", 0, 1, ()),)
        house = joining_house()
        self.hears(("tone",), *ring, house=house, line=1)
        self.hears(("tone", "both"), *joined, house=house, line=1)
        self.hears(("tone", "both", "stranger"), *joined, ("lay", 0, ()), house=house, line=1)
        self.hears(("tone", "voice", "both", "stranger", "quiet"), *joined, ("lay", 0, ()), ("gone", 1, ()),
                   house=house)
        self.hears(("tone", "both", "stranger", "gone"), *joined, ("lay", 0, ()), ("gone", 1, ()), house=house, line=1)
        self.hears(("tone", "both", "tone"), *joined, ("gone", 0, ()), house=house, line=1)

    def test_the_ends_of_other_lines_are_not_heard(self):
        house = joining_house()
        both = (("call", 0, (0,)), ("call", 1, (1,)))
        self.hears(("tone",), *both, ("gone", 1, ()), house=house)
        self.hears(("tone", "gone"), *both, ("gone", 1, ()), house=house, line=1)
        self.hears(("tone",), *both, ("gone", 1, ()), ("call", 1, (1,)), house=house)
        self.hears(("tone",), *both, ("key", "take", 1, 1, ()), ("lay", 1, ()), house=house)
        self.hears(("tone", "voice", "over"), *both, ("key", "take", 1, 1, ()), ("lay", 1, ()), house=house, line=1)

    def test_a_phone_whose_number_is_that_of_the_line(self):
        house = house_of(2, "free talk", "put hear", "call: stand talk", "key put: a me", "key hear: hear")
        way = (("call", 0, ()), ("call", 1, ()), ("key", "put", 1, 0, ()), ("key", "hear", 1, 0, ()), ("lay", 1, ()))
        self.hears(("klat",), *way, house=house, line=1)
        self.hears(("klat", "voice", "klat"), *way, house=house, line=0)


class Wrong(Case):
    def no_weaving(self, index, weaving, house=None):
        house = house or sample_house()
        self.raises(InvalidWeaving, "index", index, play, house, weaving)
        self.raises(InvalidWeaving, "index", index, play, weaving=weaving, house=house)
        self.raises(InvalidWeaving, "index", index, hearing, house, weaving, 0)
        self.raises(InvalidWeaving, "index", index, hearing, line=None, weaving=weaving, house=house)

    def test_no_houses(self):
        for thing in NO_HOUSES:
            with self.subTest(thing=thing):
                self.raises(NotAHouse, "given", thing, play, thing, None)
                self.raises(NotAHouse, "given", thing, play, weaving=(1, ()), house=thing)
                self.raises(NotAHouse, "given", thing, hearing, thing, None, None)
                self.raises(NotAHouse, "given", thing, hearing, line=0, weaving=(1, ()), house=thing)

    def test_no_pairs(self):
        for thing in NO_WEAVINGS:
            with self.subTest(thing=thing):
                self.no_weaving(None, thing)

    def test_the_first_event_that_cannot_be_made(self):
        for at in range(5):
            for wrong in (("gone", 1, ()), ("call", 0, (1, 1)), ("call", True, (1,)), list(CALL), None, (), mock.ANY,
                          ("key", "take", 2, 0, ()), "call"):
                events = TALK[:at] + (wrong,)
                with self.subTest(events=events):
                    self.no_weaving(at, (2, events))
                    self.no_weaving(at, (2, events + (None,)))
                    self.no_weaving(at, (2, events + TALK[at:]))

    def test_what_can_be_made_at_other_moments_or_with_more_phones_alone(self):
        self.no_weaving(0, (2, (("lay", 1, ()), CALL)))
        self.no_weaving(1, (2, (CALL, CALL)))
        self.no_weaving(3, (2, (CALL, TAKE, ("gone", 0, ()), ("gone", 0, ()))))
        self.no_weaving(0, (1, TALK))
        self.no_weaving(0, (1, (("call", 0, ()),)))

    def test_no_lines(self):
        for line in NO_INTEGERS + (-1, 1, 2, 10 ** 39, mock.ANY):
            with self.subTest(line=line):
                self.raises(InvalidNumber, "given", line, hearing, sample_house(), (2, TALK), line)
                self.raises(InvalidNumber, "given", line, hearing, line=line, weaving=(2, ()), house=sample_house())
        self.raises(InvalidNumber, "given", 2, hearing, joining_house(), (2, ()), 2)

    def test_what_they_get_stays_as_it_was(self):
        house, weaving = sample_house(), (2, TALK)
        play(house, weaving)
        hearing(house, weaving, 0)
        self.assertEqual((house, weaving), (sample_house(), (2, (CALL, TAKE, HOLD, BACK))))


if __name__ == "__main__":
    unittest.main()
