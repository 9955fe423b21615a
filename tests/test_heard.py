"""Moment.heard and Moment.shows: what callers hear, and what pictures are."""

import itertools
import unittest
from unittest import mock

from cases import NO_INTEGERS, Case, behind, house_of
from examples import OTHER_THINGS, SAMPLE_STANDS, bent
from holdhouse.errors import InvalidNumber, InvalidPicture
from holdhouse.houses import House
from holdhouse.moments import begin
from holdhouse.samples import joining_house, sample_house

# Line 0 rings at phone 0, which takes it; line 1 rings at phone 1.
RING = (("call", 0, (0,)), ("call", 1, (1,)))
TALK = RING + (("key", "take", 0, 0, ()),)
JOINED = TALK + (("key", "join", 0, 1, ()),)

CONDITIONS = ("in free", "in ring", "in talk", "caller", "joined", "a", "b", "ear a", "ear b", "voice", "stranger")


class Heard(Case):
    def heard(self, *events, house=None):
        moment = behind(house or joining_house(), 3, *events)
        return tuple(moment.heard(line) for line in range(moment.house.lines))

    def test_without_a_caller(self):
        self.assertEqual(self.heard(), (None, None))
        self.assertEqual(self.heard(("call", 1, (0,)), ("gone", 1, ())), (None, None))

    def test_the_sound_of_the_stand(self):
        self.assertEqual(self.heard(*RING), ("tone", "tone"))
        for stand, sound in SAMPLE_STANDS[1:]:
            house = House(1, SAMPLE_STANDS, (), (f"call: stand {stand}",))
            self.assertEqual(self.heard(("call", 0, ()), house=house), (sound,))

    def test_voice(self):
        self.assertEqual(self.heard(*TALK), ("voice", "tone"))
        self.assertEqual(self.heard(*TALK, ("key", "take", 1, 1, ())), ("voice", "voice"))

    def test_both(self):
        self.assertEqual(self.heard(*JOINED), ("both", "both"))
        self.assertEqual(self.heard(*JOINED, ("key", "take", 1, 1, ())), ("both", "both"))

    def test_stranger(self):
        self.assertEqual(self.heard(*JOINED, ("lay", 0, ())), ("stranger", "stranger"))

    def test_voice_by_the_mate(self):
        house = house_of(2, "free talk", "hear join", "call: a some, stand talk", "key hear: hear", "key join: join",
                         "gone: deaf")
        joined = (("call", 0, (0,)), ("call", 1, (1,)), ("key", "hear", 0, 0, ()), ("key", "join", 0, 1, ()))
        self.assertEqual(self.heard(*joined, house=house), ("both", "both"))
        self.assertEqual(self.heard(*joined, ("gone", 1, ()), house=house), ("voice", None))
        self.assertEqual(self.heard(*joined, ("key", "hear", 1, 1, ()), ("gone", 0, ()), house=house), (None, "voice"))
        self.assertEqual(self.heard(*joined, ("gone", 0, ()), house=house), (None, "klat"))

    def test_the_mate_without_a_caller_is_no_stranger(self):
        house = house_of(2, "free talk", "put join", "call: stand talk", "key put: a me, hear, stand talk",
                         "key join: join")
        joined = (("call", 1, ()), ("key", "put", 0, 0, ()), ("key", "join", 0, 1, ()))
        self.assertEqual(self.heard(*joined, house=house), (None, "voice"))
        self.assertEqual(self.heard(*joined, ("lay", 0, ()), house=house), (None, "klat"))

    def test_by_name(self):
        self.assertEqual(behind(joining_house(), 3, *RING).heard(line=1), "tone")

    def test_no_lines(self):
        moment = begin(joining_house(), 5)
        for line in NO_INTEGERS + (-1, -2, 2, 3, 10 ** 39, -10 ** 39):
            with self.subTest(line=line):
                self.raises(InvalidNumber, "given", line, moment.heard, line)
                self.raises(InvalidNumber, "given", line, moment.heard, line=line)
                self.raises(InvalidNumber, "given", line, moment.shows, line, None)


class Shows(Case):
    def check(self, moment, line, holding):
        for condition in CONDITIONS:
            with self.subTest(line=line, condition=condition):
                self.assertIs(moment.shows(line, condition), condition in holding)
                self.assertIs(moment.shows(line, f"not {condition}"), condition not in holding)

    def test_each_condition(self):
        moment = begin(joining_house())
        self.check(moment, 0, {"in free"})
        moment = behind(joining_house(), 3, *TALK)
        self.check(moment, 0, {"in talk", "caller", "a", "ear a", "voice"})
        self.check(moment, 1, {"in ring", "caller", "a"})
        moment = behind(joining_house(), 3, *JOINED)
        self.check(moment, 0, {"in talk", "caller", "a", "ear a", "voice", "joined", "stranger"})
        self.check(moment, 1, {"in ring", "caller", "a", "voice", "joined", "stranger"})
        moment = moment.after(("lay", 0, ()))
        self.check(moment, 0, {"in talk", "caller", "a", "joined", "stranger"})

    def test_b(self):
        house = house_of(2, "free ring talk", "put hear", "key put: b me, stand talk", "key hear: hear")
        moment = behind(house, 2, ("key", "put", 0, 0, ()), ("key", "put", 0, 1, ()), ("key", "hear", 0, 1, ()))
        self.check(moment, 0, {"in talk", "b"})
        self.check(moment, 1, {"in talk", "b", "ear b", "voice"})

    def test_voice_and_stranger_without_a_caller(self):
        house = house_of(2, "free ring talk", "put join", "call: stand talk", "key put: a me, hear, stand talk",
                         "key join: join")
        moment = behind(house, 1, ("key", "put", 0, 0, ()), ("call", 1, ()), ("key", "join", 0, 1, ()))
        self.check(moment, 0, {"in talk", "a", "ear a", "voice", "joined", "stranger"})
        self.check(moment, 1, {"in talk", "caller", "voice", "joined"})

    def test_all_conditions_must_hold(self):
        moment = behind(joining_house(), 3, *TALK)
        right = ("in talk", "not b", "voice", "not stranger")
        for many in range(1, 5):
            for some in itertools.permutations(right, many):
                self.assertIs(moment.shows(0, " and ".join(some)), True)
        for wrong in ("b", "not a", "not voice", "stranger", "in ring", "not in talk", "joined"):
            for at in range(4):
                some = right[:at] + (wrong,) + right[at + 1:]
                self.assertIs(moment.shows(0, " and ".join(some)), False)
        self.assertIs(moment.shows(0, "a and a and a and a"), True)
        self.assertIs(moment.shows(0, "a and not a"), False)

    def test_by_name(self):
        moment = behind(joining_house(), 3, *TALK)
        self.assertIs(moment.shows(picture="voice", line=0), True)
        self.assertIs(moment.shows(1, picture="voice"), False)

    def test_stands_called_like_words_of_pictures(self):
        house = house_of(1, "a in voice gone", "", "call: stand voice")
        moment = behind(house, 1, ("call", 0, ()))
        self.assertIs(moment.shows(0, "in voice"), True)
        self.assertIs(moment.shows(0, "voice"), False)
        self.assertIs(moment.shows(0, "not in in and not in a and not a"), True)


class Pictures(Case):
    def good(self, picture):
        self.assertIn(begin(sample_house()).shows(0, picture), (True, False))

    def bad(self, picture, house=None):
        moment = begin(house or sample_house())
        self.raises(InvalidPicture, "given", picture, moment.shows, 0, picture)
        self.raises(InvalidPicture, "given", picture, moment.shows, picture=picture, line=0)

    def test_how_many_conditions(self):
        for one in ("a", "not in held", "voice", "not stranger"):
            for many in range(1, 5):
                self.good(" and ".join([one] * many))
            for many in (5, 6, 400):
                self.bad(" and ".join([one] * many))

    def test_no_strings(self):
        for thing in OTHER_THINGS + (0, 1, (), ("a",), mock.ANY, sample_house()):
            with self.subTest(thing=thing):
                self.bad(thing)

    def test_no_conditions(self):
        for condition in ("", " ", "me a", "me b", "busy", "in", "in ", "in quiet", "in hold", "in Held", "held", "c",
                          "ear", "ear c", "not", "not not a", "nota", "a b", "both", "over", "gone", "sound", "music",
                          "Voice", "voices", "strange", "stand held", "a none", "hear", "me", "mate", "free", "\n"):
            with self.subTest(condition=condition):
                self.bad(condition)
                self.bad(f"not {condition}")
                self.bad(f"a and {condition}")
                self.bad(f"{condition} and a")

    def test_signs_between_conditions(self):
        for picture in ("a  and b", "a and  b", "a and b ", " a and b", "a andb", "aand b", "a and and b", "and a",
                        "a and", "a and ", "a, b", "a or b", "a and\nb", "a & b", "a not b", "a\tand b", "if a",
                        "a and not", "call if a", "not a and not  b", "a\n", "x" * 4000):
            with self.subTest(picture=picture):
                self.bad(picture)

    def test_bent(self):
        plain = {*CONDITIONS, "in held"}
        right = {f"{sign}{one}" for one in plain for sign in ("", "not ")}
        for picture in ("not in held and ear a", "voice and not b"):
            for other in set(bent(picture, " abnot")):
                if set(other.split(" and ")) <= right:
                    self.good(other)
                else:
                    self.bad(other)

    def test_stands_of_the_house_alone(self):
        self.bad("in held", joining_house())
        self.bad("not in held", joining_house())
        self.bad("a and in park")
        self.good("a and in held")


if __name__ == "__main__":
    unittest.main()
