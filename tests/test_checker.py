"""accepts: claims of all six kinds, with certificates written by hand."""

import unittest
from unittest import mock

from bending import changed
from cases import Case, house_of
from examples import MANY_SHAPES_TEXT, OTHER_THINGS, SAMPLE_TEXT
from holdhouse import checker
from holdhouse.checker import accepts
from holdhouse.houses import House
from holdhouse.samples import joining_house, lost_house, sample_house

FREE = (("free", False, None, None, None),), ()
RING = (("ring", True, 0, None, None),), (None,)
TALK = (("talk", True, 0, None, None),), (0,)
HELD = (("held", True, 0, None, None),), (None,)
SAMPLE_TABLE = (FREE, RING, TALK, HELD)
NO_CERTIFICATES = OTHER_THINGS + (0, 1, "", "a", (), (None,), ((),) * 4, mock.ANY, (mock.ANY,) * 4, (1, ()), (1, (), ()))

LOST_HOLD = (("call", 0, (0,)), ("key", "take", 0, 0, ()), ("key", "hold", 0, 0, ()))
LOST = (("held", True, None, None, None),), ()


class CheckerCase(Case):
    def accepted(self, claim, certificate):
        self.assertIs(accepts(claim, certificate), True)
        self.assertIs(accepts(certificate=certificate, claim=claim), True)

    def refused(self, claim, certificate):
        with self.subTest(claim=claim, certificate=certificate):
            self.assertIs(accepts(claim, certificate), False)
            self.assertIs(accepts(certificate=certificate, claim=claim), False)


class Defined(unittest.TestCase):
    def test_in_its_file(self):
        self.assertEqual(checker.accepts.__module__, "holdhouse.checker")


class Claims(CheckerCase):
    def test_claims_that_are_none(self):
        tables = (SAMPLE_TABLE,) * 4
        text = SAMPLE_TEXT
        for claim in OTHER_THINGS + (
                0, "", "never", (), ("never",), ("kept",), ("never", text), ("never", text, "b", "b"), ("kept", text, "b"),
                ["kept", text], ("Kept", text), ("kept", None), ("kept", 1), ("kept", [text]), ("kept", sample_house()),
                ("kept", text.encode()), (b"kept", text), (None, text), (True, text), (("kept",), text), (["kept"], text),
                ("within", text, text), ("kept", ""), ("kept", text + "\n"), ("kept", " " + text), ("kept", text[1:]),
                ("kept", text.replace("lines 1", "lines 01")), ("kept", text.replace(" hold", "  hold", 1)),
                ("kept", text.replace("lines 1", "lines 2")), mock.ANY, (mock.ANY, text), ("kept", mock.ANY),
                ("never", text, mock.ANY), ("can", text, "b"), ("comes", text), ("away", text, "b"), ("stuck", text, "b")):
            self.refused(claim, tables)
            self.refused(claim, (1, ()))
        self.accepted(("kept", text), tables)

    def test_pictures_of_no_or_another_house(self):
        tables = (SAMPLE_TABLE,) * 4
        for picture in OTHER_THINGS + (0, "", "in park", "me a", "busy", "b ", " b", "b and", "b and b and b and b and b",
                                       "not  b", "not not b", ("b",), mock.ANY):
            self.refused(("never", SAMPLE_TEXT, picture), tables)
            self.refused(("comes", SAMPLE_TEXT, picture), (1, ()))
            for kind in ("can", "stuck"):
                self.refused((kind, SAMPLE_TEXT, picture, "b"), tables)
                self.refused((kind, SAMPLE_TEXT, "b", picture), ((1, ()), 0, (FREE,)))
        self.refused(("never", str(joining_house()), "in held"), tables)

    def test_anything_as_a_certificate(self):
        for claim in (("never", SAMPLE_TEXT, "b"), ("kept", SAMPLE_TEXT), ("can", SAMPLE_TEXT, "b", "b"),
                      ("comes", SAMPLE_TEXT, "b"), ("away", SAMPLE_TEXT), ("stuck", SAMPLE_TEXT, "b", "b")):
            for thing in NO_CERTIFICATES:
                self.refused(claim, thing)
                self.refused(claim, (thing,) * 4)
                self.refused(claim, (thing,) * 3)
                self.refused(claim, (1, thing))
                self.refused(claim, ((1, ()), 0, thing))


class Tables(CheckerCase):
    """The tables of claims that something never comes, and that nobody is called away."""

    def both(self, way, tables):
        way(("never", SAMPLE_TEXT, "voice and not caller"), tables)
        way(("kept", SAMPLE_TEXT), tables)

    def test_those_of_the_sample_house(self):
        self.both(self.accepted, (SAMPLE_TABLE,) * 4)
        self.both(self.accepted, (SAMPLE_TABLE, SAMPLE_TABLE[::-1], (HELD, FREE, TALK, RING), SAMPLE_TABLE))

    def test_the_picture_must_not_be_shown(self):
        for picture in ("in held", "a", "voice", "not a", "caller", "in ring and not ear a"):
            self.refused(("never", SAMPLE_TEXT, picture), (SAMPLE_TABLE,) * 4)

    def test_each_number_of_phones(self):
        for many in (0, 1, 3, 5):
            self.both(self.refused, (SAMPLE_TABLE,) * many)
        self.both(self.refused, [SAMPLE_TABLE] * 4)
        for at in range(4):
            for table in ((), (FREE,), list(SAMPLE_TABLE), None, SAMPLE_TABLE + (SAMPLE_TABLE[at],), SAMPLE_TABLE + (None,)):
                self.both(self.refused, changed((SAMPLE_TABLE,) * 4, (at,), table))

    def test_a_shape_is_missing(self):
        for at in range(4):
            for out in range(4):
                table = SAMPLE_TABLE[:out] + SAMPLE_TABLE[out + 1:]
                self.both(self.refused, changed((SAMPLE_TABLE,) * 4, (at,), table))

    def test_shapes_that_never_come(self):
        alone = (("ring", True, None, None, None),), ()
        tables = changed((SAMPLE_TABLE,) * 4, (1,), SAMPLE_TABLE + (alone,))
        self.both(self.accepted, tables)
        self.accepted(("never", SAMPLE_TEXT, "in ring and not a"), (SAMPLE_TABLE,) * 4)
        self.refused(("never", SAMPLE_TEXT, "in ring and not a"), tables)
        # By the key take any phone comes to a talk without a caller, and nothing of this is in the tables.
        held = (("held", False, None, None, None),), ()
        self.both(self.refused, changed((SAMPLE_TABLE,) * 4, (1,), SAMPLE_TABLE + (held,)))

    def test_shapes_for_more_phones_than_there_are(self):
        two = (("ring", False, 0, 1, None),), (None, None)
        quiet = house_of(1, "free ring", "")
        text = str(quiet)
        free = (("free", False, None, None, None),), ()
        self.accepted(("kept", text), ((free,),) * 4)
        self.accepted(("kept", text), ((free,), (free, two), (free, two), (two, free)))
        self.refused(("kept", text), ((free, two),) * 4)

    def test_what_is_no_shape(self):
        bent = [((1,), 0), ((), FREE[0]), ((), (FREE[0], (), ())), ((0,), ()), ((0,), list(RING[0])), ((1,), []),
                ((0, 0), ("ring", True, 0, None)), ((0, 0), ("ring", True, 0, None, None, None)),
                ((0, 0), ["ring", True, 0, None, None]), ((0, 0, 0), "park"), ((0, 0, 0), None), ((0, 0, 0), "free"),
                ((0, 0, 1), 1), ((0, 0, 1), 0), ((0, 0, 1), None), ((0, 0, 2), 1), ((0, 0, 2), -1), ((0, 0, 2), False),
                ((0, 0, 2), None), ((0, 0, 3), 0), ((0, 0, 3), 1), ((0, 0, 3), True), ((0, 0, 4), 0), ((0, 0, 4), 1),
                ((1,), ()), ((1,), (None, None)), ((1, 0), 1), ((1, 0), False), ((1, 0), -1), ((1, 0), "0"),
                ((0,), (RING[0][0], RING[0][0])), ((0, 0, 0), mock.ANY), ((0, 0, 2), mock.ANY), ((1, 0), mock.ANY)]
        for path, value in bent:
            table = (FREE, changed(RING, path, value), TALK, HELD)
            with self.subTest(path=path, value=value):
                self.both(self.refused, (table,) * 4)
                self.both(self.refused, ((*SAMPLE_TABLE, table[1]),) * 4)
                self.both(self.refused, (SAMPLE_TABLE,) * 3 + ((*SAMPLE_TABLE, table[1]),))

    def test_truth_values_and_numbers_are_told_apart(self):
        self.both(self.refused, changed((SAMPLE_TABLE,) * 4, (0, 1, 0, 0, 1), 1))
        self.both(self.refused, changed((SAMPLE_TABLE,) * 4, (0, 1, 0, 0, 2), False))
        self.both(self.refused, changed((SAMPLE_TABLE,) * 4, (0, 2, 1, 0), False))
        self.both(self.refused, changed((SAMPLE_TABLE,) * 4, (0, 0, 0, 0, 1), 0))

    def test_called_away(self):
        house = house_of(1, "free talk", "x y", "call: stand talk", "key x if not a: a me, hear", "key y: deaf")
        free, talk = (("free", False, None, None, None),), (("talk", True, None, None, None),)
        heard, deaf = (("talk", True, 0, None, None),), (("talk", False, 0, None, None),)
        gone = (("talk", False, None, None, None),)
        table = ((free, ()), (talk, ()), (heard, (0,)), (heard, (None,)), (deaf, (0,)), (deaf, (None,)), (gone, ()))
        never = ("never", str(house), "b")
        self.accepted(never, (table,) * 4)
        self.refused(("kept", str(house)), (table,) * 4)
        own = str(house.changed(2, "key y if me a: deaf"))
        self.accepted(("never", own, "b"), (table,) * 4)
        self.accepted(("kept", own), (table,) * 4)

    def test_two_lines(self):
        house = house_of(2, "free talk", "", "call: stand talk", "gone: stand free")
        free, talk = ("free", False, None, None, None), ("talk", True, None, None, None)
        table = tuple(((one, other), ()) for one in (free, talk) for other in (free, talk))
        claim = ("never", str(house), "joined")
        self.accepted(claim, (table,) * 6)
        for at in range(4):
            self.refused(claim, (table,) * 5 + (table[:at] + table[at + 1:],))
        self.refused(claim, (table,) * 4)
        joined = (("talk", True, None, None, 1), ("talk", True, None, None, 0)), ()
        self.accepted(("never", str(house), "a"), (table + (joined,),) * 6)
        self.refused(claim, (table + (joined,),) * 6)
        for wrong in ((0, 0), (1, 1), (1, None), (None, 0), (2, 2), (True, False), (1, False)):
            bent = changed(changed(joined, (0, 0, 4), wrong[0]), (0, 1, 4), wrong[1])
            self.refused(("never", str(house), "a"), (table + (bent,),) * 6)

    def test_the_numbers_of_phones_in_a_shape(self):
        house = house_of(2, "free talk", "")
        free = ((("free", False, None, None, None),) * 2, ())
        claim = ("never", str(house), "in talk and voice")

        def shape(*places, ears):
            return tuple(("talk", False, a, b, None) for a, b in places), ears

        self.accepted(claim, ((free,),) * 6)
        for good in (shape((0, 1), (2, 3), ears=(None,) * 4), shape((0, 1), (1, 0), ears=(None,) * 2),
                     shape((None, 0), (1, 0), ears=(None,) * 2), shape((None, None), (None, 0), ears=(None,))):
            self.accepted(claim, ((free,),) * 5 + ((free, good),))
        for bad in (shape((1, 0), (2, 3), ears=(None,) * 4), shape((0, 1), (3, 2), ears=(None,) * 4),
                    shape((0, 0), (None, None), ears=(None,)), shape((1, None), (None, None), ears=(None,) * 2),
                    shape((0, 1), (2, 3), ears=(None,) * 3), shape((0, 1), (2, 3), ears=(None,) * 5),
                    shape((0, None), (None, None), ears=(1,)), shape((0, None), (1, None), ears=(1, None))):
            self.refused(claim, ((free,),) * 5 + ((free, bad),))
        for ear in (0, 1, 2, -1, False, True):
            deaf, hearing = [shape((0, None), (None, None), ears=(one,)) for one in (None, ear)]
            way = self.accepted if ear == 0 and ear is not False else self.refused
            way(("never", str(house), "caller"), ((free,),) * 5 + ((free, deaf, hearing),))

    def test_mates(self):
        # Nothing happens in these houses, so all tables are closed.
        free, talk = ("free", False, None, None, None), ("talk", False, None, None, None)
        for lines, mates, way in (
                (2, (1, 0), self.accepted), (2, (None, None), self.accepted), (3, (1, 0, None), self.accepted),
                (3, (2, None, 0), self.accepted), (3, (None, 2, 1), self.accepted),
                (1, (0,), self.refused), (2, (0, 1), self.refused), (2, (0, None), self.refused),
                (2, (None, 1), self.refused), (2, (1, None), self.refused), (2, (None, 0), self.refused),
                (2, (1, 1), self.refused), (2, (2, None), self.refused), (2, (-1, 0), self.refused),
                (2, (True, False), self.refused), (2, (1, False), self.refused), (2, (True, 0), self.refused),
                (3, (1, 2, 0), self.refused), (3, (1, 2, 1), self.refused), (3, (0, 2, 1), self.refused)):
            with self.subTest(mates=mates):
                start, shape = ((free,) * lines, ()), (tuple(talk[:4] + (mate,) for mate in mates), ())
                claim = ("never", str(house_of(lines, "free talk", "")), "caller")
                way(claim, ((start,),) * (2 * lines + 1) + ((start, shape),))

    def test_the_number_of_lines_in_a_shape(self):
        free, talk = ("free", False, None, None, None), ("talk", False, None, None, None)
        for lines in (1, 2, 3):
            claim = ("never", str(house_of(lines, "free talk", "")), "caller")
            start = ((free,) * lines, ())
            for many in range(5):
                way = self.accepted if many == lines else self.refused
                way(claim, ((start,),) * (2 * lines + 1) + ((start, ((talk,) * many, ())),))


class Weavings(CheckerCase):
    def test_comes(self):
        self.accepted(("comes", SAMPLE_TEXT, "in ring"), (3, (("call", 0, (2,)),)))
        self.accepted(("comes", SAMPLE_TEXT, "in free"), (20, ()))
        self.accepted(("comes", SAMPLE_TEXT, "in held and not voice"), (1, LOST_HOLD))
        self.refused(("comes", SAMPLE_TEXT, "in ring"), (1, LOST_HOLD))
        self.refused(("comes", SAMPLE_TEXT, "in ring"), (3, ()))

    def test_any_line(self):
        text = str(joining_house())
        for line in (0, 1):
            self.accepted(("comes", text, "in ring"), (1, (("call", line, (0,)),)))
        self.refused(("comes", text, "in ring"), (1, (("call", 2, (0,)),)))

    def test_weavings_that_are_none(self):
        claim = ("comes", SAMPLE_TEXT, "not in held")
        call = ("call", 0, (0,))
        self.accepted(claim, (1, (call,)))
        for weaving in ((0, ()), (21, ()), (True, ()), ("1", ()), (1,), (1, (), ()), [1, ()], (1, []), (1, [call]),
                        (1, call), (1, (call, call)), (1, (("call", 0, (1,)),)), (1, (("call", 0, (False,)),)),
                        (1, (("call", False, (0,)),)), (1, (["call", 0, (0,)],)), (1, (("call", 0, [0]),)),
                        (1, (("call", 0, ()),)), (1, (("call", 0, (0, 0)),)), (1, (("gone", 0, ()),)), (1, (None,)),
                        (1, ((),)), (1, (mock.ANY,)), (1, ((mock.ANY, 0, (0,)),)), (1, (("call", mock.ANY, (0,)),)),
                        (mock.ANY, (call,)), (10 ** 39, (call,)), (1, (call, ("key", "park", 0, 0, ())))):
            self.refused(claim, weaving)

    def test_away(self):
        house = sample_house().changed(3, "key take if not in free: a me, hear, stand talk")
        claim = ("away", str(house))
        events = (("call", 0, (0,)), ("key", "take", 0, 0, ()), ("key", "take", 1, 0, ()))
        self.accepted(claim, (2, events))
        self.accepted(claim, (20, events))
        self.accepted(claim, (2, events + (("key", "take", 0, 0, ()),)))
        for many in range(3):
            self.refused(claim, (2, events[:many]))
        self.refused(claim, (1, events))
        self.refused(claim, (2, events + (("late", 0, ()),)))
        self.refused(claim, (2, events[:2] + (("key", "take", 0, 0, ()),)))
        self.refused(claim, (2, events[:2] + (("lay", 0, ()),)))
        self.refused(("away", SAMPLE_TEXT), (2, events))

    def test_houses_with_too_many_shapes(self):
        self.accepted(("comes", MANY_SHAPES_TEXT, "in ring and a"), (1, (("call", 2, (0,)),)))
        self.refused(("comes", MANY_SHAPES_TEXT, "in ring and b"), (1, (("call", 2, (0,)),)))


class Numbers(CheckerCase):
    """The tables of claims that no weaving is stuck."""

    def tables(self, *numbers):
        return (tuple(zip(SAMPLE_TABLE, [(number,) for number in numbers])),) * 4

    def test_the_sample_house(self):
        claim = ("can", SAMPLE_TEXT, "caller and not voice", "voice")
        for numbers in ((None, 1, 0, 1), (None, 5, 0, 10 ** 39), (None, 1, None, 1), (None, 1, 7, 1), (None, 2, 0, 1)):
            self.accepted(claim, self.tables(*numbers))
        for numbers in ((0, 1, 0, 1), (1, 1, 0, 1), (None, 0, 0, 1), (None, 1, 0, 0), (None, None, 0, 1),
                        (None, 1, 0, None)):
            self.refused(claim, self.tables(*numbers))

    def test_a_number_where_the_goal_is_shown(self):
        # From the talk a key that does nothing leads to the talk, and so does each calm event that changes nothing.
        claim = ("can", SAMPLE_TEXT, "voice", "voice")
        for number in (0, 1, 2, 10 ** 39):
            self.accepted(claim, self.tables(None, None, number, None))
        self.refused(claim, self.tables(None, None, None, None))
        house = house_of(1, "free talk", "", "call: stand talk", "late: stand free", "gone: stand free")
        free, talk = ((("free", False, None, None, None),), ()), ((("talk", True, None, None, None),), ())
        for number, way in ((0, self.accepted), (1, self.refused), (None, self.refused)):
            way(("can", str(house), "in talk", "in talk"), (((free, (None,)), (talk, (number,))),) * 4)

    def test_a_calm_event_that_does_nothing(self):
        free, talk = ((("free", False, None, None, None),), ()), ((("talk", True, None, None, None),), ())
        rows = ("call: stand talk", "late: stand free", "gone: stand free")
        tables = (((free, (None,)), (talk, (1,))),) * 4
        for keys, more, way in (("", (), self.refused), ("x", (), self.accepted),
                                ("x", ("key x: stand free",), self.refused),
                                ("x y", ("key x: stand free",), self.accepted)):
            way(("can", str(house_of(1, "free talk", keys, *rows, *more)), "in talk", "in talk"), tables)
        # At the free stand there are no events of late.
        for keys, way in (("", self.refused), ("x", self.accepted)):
            house = house_of(1, "free talk", keys, "call: stand talk", "gone: stand free")
            way(("can", str(house), "in free", "in free"), (((free, (1,)), (talk, (None,))),) * 4)

    def test_only_late_and_keys_can_do_nothing_calmly(self):
        free, talk = ((("free", False, None, None, None),), ()), ((("talk", True, None, None, None),), ())
        # Here each call is turned away, and there is no other event at the free stand.
        for keys, way in (("", self.refused), ("x", self.accepted)):
            house = house_of(1, "free talk", keys)
            way(("can", str(house), "in free", "in free"), (((free, (1,)),),) * 4)
        # A caller who goes leaves the stand as it is, but this is not calm.
        house = house_of(1, "free talk", "", "call: stand talk", "late: stand free")
        quiet = (("talk", False, None, None, None),), ()
        for number, way in ((0, self.accepted), (1, self.refused)):
            tables = (((free, (None,)), (talk, (number,)), (quiet, (0,))),) * 4
            way(("can", str(house), "in talk", "in talk"), tables)
        # Whoever lays does not hear any more, also if no row is for it.
        house = house_of(1, "free talk", "x", "call: a some, stand talk", "key x if me a and not ear a: hear",
                         "key x: stand free", "late: stand free", "gone: stand free")
        deaf, heard = [((("talk", True, 0, None, None),), (ear,)) for ear in (None, 0)]
        for number, way in ((0, self.accepted), (1, self.refused)):
            tables = (((free, (None,)), (deaf, (1,)), (heard, (number,))),) * 4
            way(("can", str(house), "in talk", "voice"), tables)

    def test_calls_and_gones_are_not_calm(self):
        house = house_of(1, "free talk", "", "call: stand talk", "gone: stand free")
        free, talk = ((("free", False, None, None, None),), ()), ((("talk", True, None, None, None),), ())
        for picture, goal, numbers in (("in free", "in talk", (1, 0)), ("in talk", "in free", (0, 1))):
            tables = (tuple(zip((free, talk), [(number,) for number in numbers])),) * 4
            self.refused(("can", str(house), picture, goal), tables)

    def test_the_free_stand_between(self):
        house = house_of(1, "free ring talk", "x y", "key x if in free: stand talk", "key y if in ring: stand free",
                         "key x if in ring and a: stand ring")
        free, talk = ((("free", False, None, None, None),), ()), ((("talk", False, None, None, None),), ())
        ring = (("ring", False, None, None, None),), ()
        table = ((free, (1,)), (talk, (0,)))
        self.accepted(("can", str(house), "in free", "in talk"), (table,) * 4)
        for number, way in ((None, self.accepted), (2, self.refused), (1, self.refused)):
            way(("can", str(house), "in free", "in talk"), ((*table, (ring, (number,))),) * 4)
        # But the goal may be shown at the free stand.
        table = ((free, (0,)), (talk, (None,)), (ring, (1,)))
        self.accepted(("can", str(house), "in ring", "in free"), (table,) * 4)
        self.accepted(("can", str(house), "in ring", "in free and not caller"), (table,) * 4)
        self.refused(("can", str(house), "in ring", "in free and caller"), (table,) * 4)

    def test_forms(self):
        claim = ("can", SAMPLE_TEXT, "caller and not voice", "voice")
        good = self.tables(None, 1, 0, 1)
        for path, value in (((), list(good)), ((0,), list(good[0])), ((0, 1), list(good[0][1])), ((0, 1), RING),
                            ((0, 1), (RING,)), ((0, 1), (RING, (1,), (1,))), ((0, 1, 1), 1), ((0, 1, 1), [1]),
                            ((0, 1, 1), ()), ((0, 1, 1), (1, 1)), ((0, 1, 1), (True,)), ((0, 1, 1), ("1",)),
                            ((0, 2, 1), (False,)), ((0, 1, 1), (-1,)), ((0, 2, 1), (-1,)), ((0, 0, 1), (-1,)),
                            ((0, 1, 1), ((1,),)), ((0, 1, 0), None), ((0, 1, 0), list(RING)), ((0, 0), None),
                            ((0,), good[0][:3]), ((0,), good[0] + (good[0][1],)), ((0,), good[0] + ((RING, (2,)),)),
                            ((), good[:3]), ((), good + good[:1]), ((), (SAMPLE_TABLE,) * 4), ((0, 1, 1), (mock.ANY,)),
                            ((0, 1, 1), mock.ANY), ((0, 1), mock.ANY), ((3, 1, 0, 1), (False,))):
            self.refused(claim, changed(good, path, value))
        self.accepted(claim, changed(good, (3, 2, 1), (None,)))

    def test_each_table(self):
        claim = ("can", SAMPLE_TEXT, "caller and not voice", "voice")
        good, bad = self.tables(None, 1, 0, 1), self.tables(None, 1, 0, None)
        for at in range(4):
            self.refused(claim, good[:at] + bad[:1] + good[at + 1:])

    def test_a_house_that_can_be_stuck(self):
        table = (FREE, RING, TALK, LOST)
        claim = ("can", str(lost_house()), "caller and not voice", "voice")
        for number in (None, 0, 1, 2, 10 ** 39):
            self.refused(claim, (tuple(zip(table, ((None,), (1,), (0,), (number,)))),) * 4)
        tables = (tuple(zip(table, ((None,), (1,), (0,), (None,)))),) * 4
        self.accepted(("can", str(lost_house()), "in ring", "voice"), tables)

    def test_each_line(self):
        house = house_of(2, "free talk", "x", "call: stand talk", "gone: stand free", "key x if in talk: stand free")
        free, talk = ("free", False, None, None, None), ("talk", True, None, None, None)
        claim = ("can", str(house), "in talk", "in free")
        table = tuple(((one, other), ()) for one in (free, talk) for other in (free, talk))
        good = (tuple((shape, tuple(int(line == talk) for line in shape[0])) for shape in table),) * 6
        self.accepted(claim, good)
        for at, line in ((1, 1), (2, 0), (3, 0), (3, 1)):
            self.refused(claim, changed(good, (2, at, 1, line), None))
            self.refused(claim, changed(good, (2, at, 1, line), 0))
            self.accepted(claim, changed(good, (2, at, 1, line), 3))
        for at, line in ((0, 0), (0, 1), (1, 0), (2, 1)):
            self.accepted(claim, changed(good, (2, at, 1, line), None))


class DeadEnds(CheckerCase):
    """The certificates of claims that a weaving is stuck."""

    claim = ("stuck", str(lost_house()), "in held", "voice")
    good = ((1, LOST_HOLD), 0, (LOST,))

    def test_the_lost_house(self):
        self.accepted(self.claim, self.good)
        self.accepted(self.claim[:2] + ("caller and not voice", "voice"), self.good)
        self.accepted(self.claim, ((20, LOST_HOLD), 0, (LOST,)))
        self.refused(("stuck", SAMPLE_TEXT, "in held", "voice"), ((1, LOST_HOLD), 0, (HELD,)))
        self.refused(("stuck", SAMPLE_TEXT, "in held", "voice"), ((1, LOST_HOLD), 0, (HELD, TALK)))

    def test_forms(self):
        for path, value in (((), self.good[:2]), ((), self.good + (0,)), ((), list(self.good)), ((0,), (1, ())),
                            ((0,), None), ((0,), [1, LOST_HOLD]), ((0, 0), True), ((0, 0), 0), ((0, 0), 21),
                            ((0, 1), LOST_HOLD[:2]), ((0, 1), LOST_HOLD[:1]), ((0, 1), list(LOST_HOLD)), ((1,), 1),
                            ((1,), -1), ((1,), False), ((1,), None), ((1,), "0"), ((1,), (0,)), ((2,), ()),
                            ((2,), [LOST]), ((2,), LOST), ((2,), (FREE,)), ((2,), (LOST, LOST)), ((2,), (LOST, None)),
                            ((2,), (LOST, RING)), ((2,), (LOST, TALK)), ((2, 0, 0, 0, 1), 1), ((1,), mock.ANY),
                            ((2,), (mock.ANY,)), ((2,), mock.ANY), ((0,), mock.ANY)):
            with self.subTest(path=path, value=value):
                self.refused(self.claim, changed(self.good, path, value))

    def test_more_shapes_than_come(self):
        gone = (("held", False, None, None, None),), ()
        self.accepted(self.claim, ((1, LOST_HOLD), 0, (LOST, FREE)))
        self.accepted(self.claim, ((1, LOST_HOLD), 0, (gone, LOST)))
        self.refused(self.claim, ((1, LOST_HOLD), 0, (LOST, HELD)))

    def test_the_picture_at_the_end(self):
        self.refused(self.claim[:2] + ("in ring", "voice"), self.good)
        self.refused(self.claim[:2] + ("b", "voice"), self.good)

    def test_the_goal_nowhere_in_the_table(self):
        self.refused(self.claim[:2] + ("in held", "in held"), self.good)
        self.refused(self.claim[:2] + ("in held", "caller"), self.good)
        self.refused(self.claim[:2] + ("in held", "in free"), ((1, LOST_HOLD), 0, (LOST, FREE)))
        self.accepted(self.claim[:2] + ("in held", "in free"), self.good)

    def test_at_the_free_stand(self):
        house = house_of(1, "free ring talk", "x y", "call: stand ring", "key x if in free: stand talk",
                         "key y if in ring: stand free")
        ring = (("ring", True, None, None, None),), ()
        free = (("free", False, None, None, None),), ()
        text = str(house)
        weaving = (1, (("call", 0, ()),))
        self.accepted(("stuck", text, "in ring", "in talk"), (weaving, 0, (ring,)))
        # Out of the free stand the goal comes, so this may not stand in the table.
        self.refused(("stuck", text, "in ring", "in talk"), (weaving, 0, (ring, free)))
        self.refused(("stuck", text, "in ring", "in free"), (weaving, 0, (ring,)))
        self.refused(("stuck", text, "in ring", "not caller"), (weaving, 0, (ring,)))
        self.refused(("stuck", text, "in free", "in talk"), ((1, ()), 0, (free,)))
        self.accepted(("stuck", text, "in free", "in ring"), ((1, ()), 0, (free, ((("talk", False, None, None, None),), ()))))

    def test_the_line(self):
        house = house_of(2, "free ring talk", "x", "call if not caller: deaf", "call: stand ring",
                         "key x if in free: a me, hear, stand ring", "key x if in ring and busy: stand talk")
        free = ("free", False, None, None, None)
        call = (1, (("call", 1, ()),))
        ring = ("ring", True, None, None, None)
        claim = ("stuck", str(house), "in ring", "a")
        self.assertIs(accepts(claim, (call, 0, ((((free, ring)), ()),))), False)
        heard, talk = ("ring", False, 0, None, None), ("talk", True, None, None, None)
        table = (((free, ring), ()), ((heard, ring), (0,)), ((heard, ring), (None,)), ((heard, talk), (0,)),
                 ((heard, talk), (None,)))
        self.accepted(claim, (call, 1, table))
        self.refused(claim, (call, 0, table))
        for at in range(5):
            self.refused(claim, (call, 1, table[:at] + table[at + 1:]))

    def test_the_number_of_phones(self):
        house = house_of(1, "free ring talk", "x", "call: a some, b some, stand ring",
                         "key x if not me a and not me b: stand talk")
        claim = ("stuck", str(house), "in ring", "in talk")
        for phones in (1, 2, 3, 4, 5, 20):
            picks = tuple(range(phones))[:2]
            shape = (("ring", True, *(picks + (None,))[:2], None),), (None,) * len(picks)
            way = self.accepted if phones < 3 else self.refused
            way(claim, ((phones, (("call", 0, picks),)), 0, (shape,)))

    def test_tables_for_more_phones_than_matter(self):
        house = house_of(1, "free ring talk", "x y", "call: a some, stand ring", "key x if in ring: b some",
                         "key y: stand talk")
        ring = (("ring", True, 0, None, None),), (None,)
        both = (("ring", True, 0, 1, None),), (None, None)
        talk = tuple(((("talk",) + shape[0][0][1:],), shape[1]) for shape in (ring, both))
        for phones in (3, 4, 5, 6, 20):
            weaving = (phones, (("call", 0, (phones - 1,)),))
            self.accepted(("stuck", str(house), "in ring", "not a"), (weaving, 0, (ring, both, *talk)))
            self.refused(("stuck", str(house), "in ring", "not a"), (weaving, 0, (ring, both, talk[0])))
            self.refused(("stuck", str(house), "in ring", "b"), (weaving, 0, (ring, both, *talk)))


if __name__ == "__main__":
    unittest.main()
