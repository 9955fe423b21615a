"""hears and parting_hearing."""

import unittest
from unittest import mock

from cases import NO_HOUSES, Case, house_of
from examples import JUST_FEW_ENOUGH_TEXT, MANY_SHAPES_TEXT, ONE_SHAPE_TOO_MANY_TEXT, OTHER_THINGS
from holdhouse import hearings
from holdhouse.errors import InvalidHearing, NotAHouse, TooMany
from holdhouse.hearings import hears, parting_hearing
from holdhouse.houses import House
from holdhouse.moments import hearing
from holdhouse.samples import joining_house, lost_house, sample_house

NO_HEARINGS = OTHER_THINGS + (0, 1, "", "tone", ["tone"], (1,), ("tone", 1), ("tone", None), (("tone",),), (b"tone",),
                              ("tone", True), mock.ANY, (mock.ANY,))
TALK = "key x: a me, hear, stand talk"


class Asked(Case):
    def told(self, house, *words):
        """These are hearings of the house, and so is each beginning of them."""
        for many in range(1, len(words) + 1):
            self.assertIs(hears(house, words[:many]), True, words[:many])

    def not_told(self, house, *words):
        self.assertIs(hears(house, words), False, words)


class Defined(unittest.TestCase):
    def test_in_their_file(self):
        for name in ("hears", "parting_hearing"):
            self.assertEqual(getattr(hearings, name).__module__, "holdhouse.hearings")


class Hears(Asked):
    def test_sample_house(self):
        house = sample_house()
        self.told(house, "tone", "voice", "over")
        self.told(house, "tone", "gone")
        self.told(house, "tone", "voice", "music", "voice", "music", "voice", "gone")
        self.not_told(house)
        for words in (("voice",), ("quiet",), ("music",), ("gone",), ("over",), ("tone", "music"), ("tone", "over"),
                      ("tone", "quiet"), ("tone", "voice", "tone"), ("tone", "voice", "music", "over"),
                      ("tone", "voice", "stranger"), ("tone", "both")):
            self.not_told(house, *words)

    def test_by_name(self):
        self.assertIs(hears(words=("tone",), house=sample_house()), True)

    def test_words_that_no_house_has(self):
        for word in ("", " ", "Tone", "tone ", "call", "x" * 4000, "\n"):
            self.not_told(sample_house(), word)
            self.not_told(sample_house(), "tone", word)

    def test_nothing_comes_behind_gone_and_over(self):
        for last in ("gone", "over"):
            for word in ("gone", "over", "tone", "voice"):
                self.not_told(sample_house(), "tone", "voice", last, word)

    def test_no_word_twice_in_a_row(self):
        self.not_told(sample_house(), "tone", "tone")
        self.not_told(sample_house(), "tone", "voice", "voice")
        house = House(1, (("free", "quiet"), ("ring", "tone"), ("talk", "tone"), ("held", "music")), (),
                      ("call: stand ring", "late if in ring: stand talk", "late if in talk: stand held"))
        self.told(house, "tone", "music", "gone")
        self.not_told(house, "tone", "tone", "music")

    def test_calls_that_are_turned_away(self):
        for rows in ((), ("call: a some, stand free",), ("call: stand talk, stand free",), ("call if joined: stand talk",)):
            house = house_of(1, "free talk", "x", *rows, "key x: stand talk")
            for words in ((), ("eerf",), ("klat",), ("over",), ("gone",)):
                self.not_told(house, *words)

    def test_lines_without_callers_are_not_heard(self):
        house = house_of(1, "free talk held", "x", "key x: stand talk", "late: stand held")
        self.not_told(house, "klat")
        house = house_of(1, "free talk held", "", "call: stand talk", "gone: stand held")
        self.told(house, "klat", "gone")
        self.not_told(house, "klat", "dleh")
        self.not_told(house, "klat", "gone", "dleh")

    def test_over_by_each_calm_event(self):
        for row in ("late: stand free", "key x: stand free", "lay: stand free"):
            house = house_of(1, "free talk", "x y", "call: a some, stand talk", "key y if me a: hear", row)
            with self.subTest(row=row):
                self.told(house, "klat", "voice", "over")
                self.assertIs(hears(house, ("klat", "over")), row[:3] != "lay")

    def test_gone_also_when_the_line_then_is_free(self):
        house = house_of(1, "free talk", "", "call: stand talk", "gone: stand free")
        self.told(house, "klat", "gone")
        self.not_told(house, "klat", "over")

    def test_the_first_word_is_heard_behind_the_call(self):
        house = house_of(1, "free ring talk", "", "call: stand ring, stand talk", "late: stand ring")
        self.told(house, "klat", "gnir", "gone")
        self.not_told(house, "gnir")
        house = house_of(2, "free ring", "x", "call: stand ring", "key x if in free: a me, hear, stand ring")
        self.told(house, "gnir", "gone")
        self.not_told(house, "voice")

    def test_joined_lines(self):
        house = joining_house()
        self.told(house, "tone", "voice", "both", "stranger", "both", "quiet", "gone")
        self.told(house, "tone", "both", "stranger", "both", "voice", "gone")
        self.not_told(house, "tone", "voice", "both", "stranger", "both", "voice")
        self.told(house, "tone", "both", "stranger", "tone")
        self.told(house, "tone", "both", "voice")
        self.told(house, "tone", "both", "stranger", "quiet")
        self.not_told(house, "tone", "stranger")
        self.not_told(house, "both")
        self.not_told(house, "tone", "voice", "stranger")

    def test_joined_lines_with_three(self):
        house = house_of(3, "free talk", "x y", "call: stand talk", TALK, "key y: join")
        self.told(house, "klat", "both", "stranger", "both", "gone")
        self.told(house, "klat", "both", "voice")
        self.not_told(house, "klat", "over")

    def test_with_few_phones_alone(self):
        house = house_of(1, "free ring talk", "", "call: a some, b some, stand ring", "late if a and not b: stand talk")
        self.told(house, "gnir", "klat")
        house = house.changed(1, "late if a and b: stand talk")
        self.told(house, "gnir", "klat")
        house = house.changed(1, "late if b and not a: stand talk")
        self.not_told(house, "gnir", "klat")

    def test_with_many_phones_alone(self):
        house = house_of(1, "free ring talk", "x", "call: a some, b some, stand ring",
                         "key x if a and b and not me a and not me b: a some, b some, stand talk")
        self.told(house, "gnir", "klat")
        house = house_of(2, "free ring talk held", "x", "call: a some, b some, stand ring",
                         "key x if in ring and a and b and not busy: a me, hear, stand talk",
                         "key x if in ring and a and b and busy: stand held")
        self.told(house, "gnir", "dleh")

    def test_hearings_are_not_mixed_from_several_numbers_of_phones(self):
        # With one phone `a` alone is there, with more of them `b` is there, too.
        house = house_of(1, "free ring talk held", "x", "call: a some, b some, stand ring",
                         "late if in ring and not b: stand talk", "key x if b and in ring: stand held",
                         "late if in talk and b: stand held", "late if in held and not b: stand talk")
        self.told(house, "gnir", "klat", "gone")
        self.told(house, "gnir", "dleh", "gone")
        self.not_told(house, "gnir", "klat", "dleh")
        self.not_told(house, "gnir", "dleh", "klat")

    def test_hearings_of_weavings(self):
        weaving = (2, (("call", 0, (1,)), ("key", "take", 1, 0, ()), ("key", "hold", 1, 0, ()),
                       ("key", "take", 0, 0, ()), ("lay", 0, ())))
        for many in range(1, 6):
            self.assertIs(hears(sample_house(), hearing(sample_house(), (2, weaving[1][:many]), 0)), True)

    def test_long_hearings(self):
        words = ("tone",) + ("voice", "music") * 500
        self.assertIs(hears(sample_house(), words), True)
        self.assertIs(hears(sample_house(), words + ("gone",)), True)
        self.assertIs(hears(sample_house(), words + ("music",)), False)
        self.assertIs(hears(lost_house(), words), False)

    def test_many_shapes(self):
        house = House.read(JUST_FEW_ENOUGH_TEXT)
        self.told(house, "tone", "voice")
        self.not_told(house, "quiet")


class WrongHearings(Case):
    def test_no_houses(self):
        for thing in NO_HOUSES:
            with self.subTest(thing=thing):
                self.raises(NotAHouse, "given", thing, hears, thing, ("tone",))
                self.raises(NotAHouse, "given", thing, hears, words=None, house=thing)

    def test_no_hearings(self):
        for thing in NO_HEARINGS:
            with self.subTest(thing=thing):
                self.raises(InvalidHearing, "given", thing, hears, sample_house(), thing)
                self.raises(InvalidHearing, "given", thing, hears, words=thing, house=sample_house())

    def test_too_many(self):
        for text in (MANY_SHAPES_TEXT, ONE_SHAPE_TOO_MANY_TEXT):
            for words in ((), ("tone",), ("park", "gone")):
                self.raises(TooMany, "most", 3000, hears, House.read(text), words)
        words = ["tone"]
        self.raises(InvalidHearing, "given", words, hears, House.read(MANY_SHAPES_TEXT), words)


class Parting(Case):
    def part(self, one, other, *words):
        """These words are told, and they part the houses."""
        self.assertEqual(repr(parting_hearing(one, other)), repr(words))
        self.assertIs(hears(one, words), True)
        self.assertIs(hears(other, words), False)

    def test_sample_and_lost_house(self):
        self.assertIs(parting_hearing(lost_house(), sample_house()), None)
        self.part(sample_house(), lost_house(), "tone", "voice", "music", "voice")

    def test_by_name(self):
        self.assertEqual(parting_hearing(other=lost_house(), one=sample_house()), ("tone", "voice", "music", "voice"))

    def test_a_house_and_itself(self):
        for house in (sample_house(), lost_house(), joining_house(), House.read(JUST_FEW_ENOUGH_TEXT)):
            self.assertIs(parting_hearing(house, house), None)

    def test_houses_that_sound_alike(self):
        house = sample_house()
        for row, text in ((0, "call: b some, swap, stand ring"), (5, "gone: deaf, stand free"), (4, "lay: stand free")):
            self.assertIs(parting_hearing(house, house.changed(row, text)), None)
            self.assertIs(parting_hearing(house.changed(row, text), house), None)

    def test_houses_without_hearings(self):
        silent = house_of(3, "free talk", "x", "key x: stand talk")
        self.assertIs(parting_hearing(silent, sample_house()), None)
        self.assertIs(parting_hearing(silent, silent), None)
        self.part(sample_house(), silent, "tone")

    def test_other_numbers_of_lines(self):
        stands = (("free", "quiet"), ("talk", "tone"))
        houses = [House(lines, stands, ("x",), ("call: stand talk", TALK)) for lines in (1, 2, 3)]
        for one in houses:
            for other in houses:
                self.assertIs(parting_hearing(one, other), None)
        joining = [House(lines, stands, ("x", "y"), ("call: stand talk", TALK, "key y: join")) for lines in (1, 2, 3)]
        self.part(joining[1], joining[0], "tone", "both")
        self.part(joining[2], houses[2], "tone", "both")
        self.assertIs(parting_hearing(houses[2], joining[0]), None)
        self.assertIs(parting_hearing(joining[1], joining[2]), None)
        self.assertIs(parting_hearing(joining[2], joining[1]), None)

    def test_the_shortest_before_the_least(self):
        one = house_of(1, "free ring a z b", "x y", "call: stand ring", "key x: stand z",
                       "key y if in ring: stand a", "late if in a: stand b")
        other = house_of(1, "free ring a z b", "x y", "call: stand ring", "key y if in ring: stand a")
        self.part(one, other, "gnir", "z")
        self.part(one.changed(1, "key x if in b: stand z"), other, "gnir", "a", "b")

    def test_the_least_of_several(self):
        stands = "free c b a z ring"
        other = house_of(1, stands, "x y z", "call: stand ring")
        rows = ("call: stand ring", "key x: stand z", "key y: stand b", "key z: stand c")
        self.part(house_of(1, stands, "x y z", *rows), other, "gnir", "b")
        self.part(house_of(1, stands, "x y z", *rows, "late: stand a"), other, "gnir", "a")
        deeper = [house_of(1, stands, "x y z", "call: stand ring", "key x if in ring: stand b",
                           "key y if in ring: stand a", *more)
                  for more in (("late if in b: stand c", "late if in a: stand z"), ())]
        self.part(deeper[0], deeper[1], "gnir", "a", "z")

    def test_the_least_first_word(self):
        stands = "free c b a z ring"
        one = house_of(2, stands, "x", "call if caller and a: stand z", "call: stand b", "key x if in free: a me")
        self.part(one, house_of(1, stands, ""), "b")

    def test_last_words(self):
        rows = ("call: stand talk", "key x: stand free")
        self.part(house_of(1, "free talk", "x", *rows), house_of(1, "free talk", "x", rows[0]), "klat", "over")
        self.assertIs(parting_hearing(house_of(1, "free talk", "x", rows[0]), house_of(1, "free talk", "x", *rows)), None)

    def test_what_comes_with_few_phones_alone(self):
        one = house_of(1, "free ring talk", "", "call: a some, b some, stand ring", "late if not b: stand talk")
        other = one.changed(1, "late if not a: stand talk")
        self.part(one, other, "gnir", "klat")
        self.assertIs(parting_hearing(other, one), None)

    def test_a_choice_that_was_made_earlier(self):
        # Both houses come to "c" and to "b" behind "a"; in the other one the call decides which of them.
        stands = (("free", "quiet"), ("one", "tone"), ("two", "tone"), ("hold", "a"), ("more", "b"), ("less", "c"))
        one = House(1, stands, ("x", "y"), ("call: stand one", "late if in one: stand hold", "key x if in hold: stand more",
                                            "key y if in hold: stand less"))
        again = ("key x if in more: stand hold", "key y if in less: stand hold")
        self.part(House(1, stands, ("x", "y"), (*one.rows, *again)), one, "tone", "a", "b", "a")
        other = House(1, stands, ("x", "y"), (
            "call: stand one", "key x if in one and not a: a me", "late if in one: stand hold",
            "late if in hold and a: stand more", "late if in hold and not a: stand less",
            "late if in more: stand hold", "late if in less: stand hold"))
        both = House(1, stands, ("x", "y"), (*one.rows, *again))
        self.part(both, other, "tone", "a", "b", "a", "c")
        self.assertIs(parting_hearing(other, both), None)


class WrongPartings(Case):
    def test_no_houses(self):
        for thing in NO_HOUSES:
            with self.subTest(thing=thing):
                self.raises(NotAHouse, "given", thing, parting_hearing, thing, None)
                self.raises(NotAHouse, "given", thing, parting_hearing, sample_house(), thing)
                self.raises(NotAHouse, "given", thing, parting_hearing, other=thing, one=sample_house())
                self.raises(NotAHouse, "given", thing, parting_hearing, other=0, one=thing)

    def test_too_many(self):
        many = House.read(MANY_SHAPES_TEXT)
        for one, other in ((many, sample_house()), (sample_house(), many), (many, many)):
            self.raises(TooMany, "most", 3000, parting_hearing, one, other)
        self.raises(TooMany, "most", 3000, parting_hearing, sample_house(), House.read(ONE_SHAPE_TOO_MANY_TEXT))

    def test_no_house_comes_before_too_many(self):
        self.raises(NotAHouse, "given", None, parting_hearing, House.read(MANY_SHAPES_TEXT), None)


if __name__ == "__main__":
    unittest.main()
