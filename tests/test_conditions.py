"""The conditions of rows, and which row does its deeds at an event."""

import unittest

from cases import Case, behind, house_of

ROWS = ("call: a some, stand ring", "key put: b me, stand talk", "key talk: hear")
CONDITIONS = ("in free", "in ring", "in talk", "in held", "caller", "joined", "a", "b", "ear a", "ear b")
PHONE_CONDITIONS = ("me a", "me b", "busy")

# Ways to some moment, and the conditions that then hold for line 0.
WAYS = {
    "beginning": ((), {"in free"}),
    "ring": ((("call", 0, (0,)),), {"in ring", "caller", "a"}),
    "both": ((("call", 0, (0,)), ("key", "put", 1, 0, ())), {"in talk", "caller", "a", "b"}),
    "ear a": ((("call", 0, (0,)), ("key", "put", 1, 0, ()), ("key", "talk", 0, 0, ())),
              {"in talk", "caller", "a", "b", "ear a"}),
    "ears": ((("call", 0, (0,)), ("key", "put", 1, 0, ()), ("key", "talk", 0, 0, ()), ("key", "talk", 1, 0, ())),
             {"in talk", "caller", "a", "b", "ear a", "ear b"}),
    "alone": ((("key", "put", 1, 0, ()), ("key", "talk", 1, 0, ())), {"in talk", "b", "ear b"}),
    "elsewhere": ((("call", 0, (0,)), ("key", "put", 0, 1, ()), ("key", "talk", 0, 1, ())),
                  {"in ring", "caller", "a"}),
}
# For these ways and phones, the conditions that further hold at the event of the phone for line 0.
PRESSERS = {
    ("beginning", 0): set(), ("beginning", 2): set(),
    ("ring", 0): {"me a"}, ("ring", 1): set(),
    ("both", 0): {"me a"}, ("both", 1): {"me b"}, ("both", 2): set(),
    ("ear a", 0): {"me a"}, ("ear a", 1): {"me b"},
    ("ears", 1): {"me b"}, ("ears", 2): set(),
    ("alone", 1): {"me b"}, ("alone", 0): set(),
    ("elsewhere", 0): {"me a", "busy"}, ("elsewhere", 1): set(),
}


class Conditions(Case):
    def fits(self, occasion, condition, way, event):
        """Whether the row with this condition does its deeds at the event."""
        house = house_of(2, "free ring talk held over", "put talk ask", *ROWS[occasion == "call":],
                         f"{occasion} if {condition}: stand over")
        return behind(house, 3, *way, event).stands[0] == "over"

    def agrees(self, occasion, way, event, holding, asked):
        for condition in asked:
            with self.subTest(occasion=occasion, way=way, condition=condition):
                self.assertIs(self.fits(occasion, condition, way, event), condition in holding)
                self.assertIs(self.fits(occasion, f"not {condition}", way, event), condition not in holding)

    def test_at_each_key(self):
        for (name, phone), further in PRESSERS.items():
            way, holding = WAYS[name]
            self.agrees("key ask", way, ("key", "ask", phone, 0, ()), holding | further,
                        CONDITIONS + PHONE_CONDITIONS)

    def test_at_each_late(self):
        for name, (way, holding) in WAYS.items():
            if name != "beginning":
                self.agrees("late", way, ("late", 0, ()), holding, CONDITIONS)

    def test_a_call_has_come_already(self):
        self.agrees("call", (), ("call", 0, ()), {"in free", "caller"}, CONDITIONS)

    def test_a_caller_has_gone_already(self):
        for name in ("ring", "both", "ears"):
            way, holding = WAYS[name]
            self.agrees("gone", way, ("gone", 0, ()), holding - {"caller"}, CONDITIONS)

    def test_a_phone_that_lays_hears_nothing_already(self):
        way, holding = WAYS["ears"]
        self.agrees("lay", way, ("lay", 0, ()), (holding - {"ear a"}) | {"me a"}, CONDITIONS + PHONE_CONDITIONS)
        self.agrees("lay", way, ("lay", 1, ()), (holding - {"ear b"}) | {"me b"}, CONDITIONS + PHONE_CONDITIONS)
        way, holding = WAYS["alone"]
        self.agrees("lay", way, ("lay", 1, ()), {"in talk", "b", "me b"}, CONDITIONS + PHONE_CONDITIONS)

    def test_joined(self):
        rows = ("call: a some, stand talk", "key talk: hear", "key mate: join")
        house = house_of(3, "free talk held", "talk mate ask", *rows, "key ask if joined: stand held")
        way = (("call", 0, (0,)), ("key", "talk", 0, 0, ()), ("call", 1, (1,)), ("call", 2, (2,)))
        self.assertEqual(behind(house, 3, *way, ("key", "ask", 0, 1, ())).stands, ("talk",) * 3)
        way += (("key", "mate", 0, 1, ()),)
        self.assertEqual(behind(house, 3, *way, *[("key", "ask", 0, at, ()) for at in range(3)]).stands,
                         ("held", "held", "talk"))

    def test_ear_at_a_place_is_for_this_line(self):
        house = house_of(2, "free talk held", "put talk ask", "key put: a me, stand talk", "key talk: hear",
                         "key ask if ear a: stand held")
        way = (("key", "put", 0, 0, ()), ("key", "put", 0, 1, ()), ("key", "talk", 0, 1, ()))
        self.assertEqual(behind(house, 2, *way, ("key", "ask", 1, 0, ())).stands, ("talk", "talk"))
        self.assertEqual(behind(house, 2, *way, ("key", "ask", 1, 1, ())).stands, ("talk", "held"))

    def test_busy_is_about_another_line(self):
        house = house_of(3, "free talk held", "put talk ask", "key put: a me, stand talk", "key talk: hear",
                         "key ask if busy: stand held")
        way = (("key", "put", 0, 0, ()), ("key", "talk", 0, 0, ()), ("key", "put", 0, 1, ()), ("key", "put", 0, 2, ()))
        moment = behind(house, 2, *way, *[("key", "ask", phone, at, ()) for phone in (0, 1) for at in (0, 1)])
        self.assertEqual(moment.stands, ("talk", "held", "talk"))


class WhichRow(Case):
    def test_all_conditions_must_hold(self):
        way = (("call", 0, (0,)),)
        right = ("caller", "a", "not b", "in ring")
        for at in range(5):
            conditions = [f"not {one}".replace("not not ", "") if turn == at else one
                          for turn, one in enumerate(right)]
            house = house_of(1, "free ring held", "", ROWS[0], f"late if {' and '.join(conditions)}: stand held")
            self.assertEqual(behind(house, 1, *way, ("late", 0, ())).stands, ("held" if at == 4 else "ring",))

    def test_the_first_row_that_fits_alone(self):
        house = house_of(1, "free ring held over", "", ROWS[0], "late if b: stand over", "gone: stand over",
                         "late if caller: stand held", "late: stand over", "late: b some")
        moment = behind(house, 2, ("call", 0, (0,)), ("late", 0, ()))
        self.stands_so(moment, ("held",), (True,), ((0, None),), (None,), (None, None))

    def test_no_row_that_fits(self):
        house = house_of(1, "free ring", "x", ROWS[0], "late if b: stand free", "key x if not a: stand free",
                         "gone if b: stand free")
        ring = behind(house, 2, ("call", 0, (0,)))
        self.assertEqual(ring.after(("late", 0, ())), ring)
        self.assertEqual(ring.after(("key", "x", 1, 0, ())), ring)
        self.stands_so(ring.after(("gone", 0, ())), ("ring",), (False,), ((0, None),), (None,), (None, None))

    def test_no_row_for_a_lay(self):
        house = house_of(1, "free talk", "x", "key x: a me, hear, stand talk")
        moment = behind(house, 1, ("key", "x", 0, 0, ()), ("lay", 0, ()))
        self.stands_so(moment, ("talk",), (False,), ((0, None),), (None,), (None,))

    def test_rows_of_other_keys_and_other_occasions(self):
        house = house_of(1, "free talk over", "x y", "key y: stand over", "lay: stand over", "late: stand over",
                         "call: stand talk", "gone: stand over", "key x: b me")
        moment = behind(house, 1, ("call", 0, ()))
        self.assertEqual(moment.stands, ("talk",))
        self.stands_so(moment.after(("key", "x", 0, 0, ())), ("talk",), (True,), ((None, 0),), (None,), (None,))
        self.assertEqual(moment.after(("key", "y", 0, 0, ())).stands, ("over",))

    def test_rows_look_at_the_line_of_the_event(self):
        house = house_of(2, "free ring held", "x", ROWS[0], "key x if a: stand held", "late if a: stand held")
        moment = behind(house, 2, ("call", 1, (0,)))
        self.assertEqual(moment.after(("key", "x", 1, 0, ())).stands, ("free", "ring"))
        self.assertEqual(moment.after(("key", "x", 1, 1, ())).stands, ("free", "held"))
        self.assertEqual(moment.after(("late", 1, ())).stands, ("free", "held"))

    def test_words_of_the_rows_as_stands_and_keys(self):
        house = house_of(1, "a b stand in key", "call in key", "call if in a: stand in", "key call if in in: stand key",
                         "key in if in key: a me, stand stand", "key key if in stand: hear, stand b")
        moment = behind(house, 1, ("call", 0, ()), ("key", "call", 0, 0, ()), ("key", "in", 0, 0, ()),
                        ("key", "key", 0, 0, ()))
        self.stands_so(moment, ("b",), (True,), ((0, None),), (None,), (0,))


if __name__ == "__main__":
    unittest.main()
