"""The three base classes of errors, and the nineteen classes under them."""

import unittest

from holdhouse import errors

BASES = {"WrongValue": ValueError, "WrongState": LookupError, "NoAnswer": ArithmeticError}

UNDER = {
    "InvalidNumber": ("WrongValue", ("given",)),
    "InvalidText": ("WrongValue", ("given",)),
    "InvalidName": ("WrongValue", ("given",)),
    "InvalidWish": ("WrongValue", ("given",)),
    "InvalidIndex": ("WrongValue", ("given",)),
    "InvalidPicture": ("WrongValue", ("given",)),
    "InvalidEvent": ("WrongValue", ("given",)),
    "InvalidHearing": ("WrongValue", ("given",)),
    "NotAHouse": ("WrongValue", ("given",)),
    "InvalidStands": ("WrongValue", ("index",)),
    "InvalidKeys": ("WrongValue", ("index",)),
    "InvalidRows": ("WrongValue", ("index",)),
    "WrongLine": ("WrongValue", ("index",)),
    "InvalidWeaving": ("WrongValue", ("index",)),
    "UnknownName": ("WrongState", ("given",)),
    "InUse": ("WrongState", ("index",)),
    "NothingToUndo": ("WrongState", ()),
    "TooMany": ("NoAnswer", ("most",)),
    "Broken": ("NoAnswer", ("index", "shown")),
}


class Odd:
    """An object that cannot be compared, shown or counted."""

    def __eq__(self, other):
        raise RuntimeError

    def __repr__(self):
        raise RuntimeError

    def __len__(self):
        raise RuntimeError


VALUES = (None, True, False, 0, -7, 10 ** 39, "", "ring", "%s {0} \n", b"a", (), (1, (None,)), [], [[1], {}],
          {"a": 1}, {1, 2}, len, int, ValueError, ValueError("given"), object(), Odd())


class Errors(unittest.TestCase):
    def attributes_are(self, error, names, values):
        self.assertEqual(sorted(vars(error)), sorted(names))
        for name, value in zip(names, values):
            self.assertIs(getattr(error, name), value)

    def test_there_are_nineteen(self):
        found = [name for name, thing in vars(errors).items()
                 if isinstance(thing, type) and issubclass(thing, Exception)]
        self.assertEqual(sorted(found), sorted([*BASES, *UNDER]))
        self.assertEqual(len(UNDER), 19)

    def test_each_is_defined_in_its_file(self):
        for name in [*BASES, *UNDER]:
            with self.subTest(name=name):
                self.assertEqual(getattr(errors, name).__module__, "holdhouse.errors")
                self.assertEqual(getattr(errors, name).__name__, name)

    def test_base_classes(self):
        for name, python in BASES.items():
            with self.subTest(name=name):
                self.assertEqual(getattr(errors, name).__bases__, (python,))
                self.assertIsInstance(getattr(errors, name)("why"), python)

    def test_one_base_class_each(self):
        for name, (base, _) in UNDER.items():
            with self.subTest(name=name):
                self.assertEqual(getattr(errors, name).__bases__, (getattr(errors, base),))

    def test_made_by_position_and_by_name(self):
        for name, (_, names) in UNDER.items():
            made = getattr(errors, name)
            for at, value in enumerate(VALUES):
                values = (value, VALUES[at - 1])[:len(names)]
                with self.subTest(name=name, at=at):
                    self.attributes_are(made(*values), names, values)
                    self.attributes_are(made(**dict(zip(names, values))), names, values)
                    self.attributes_are(made(**dict(reversed(list(zip(names, values))))), names, values)

    def test_broken_by_position_and_by_name_at_once(self):
        self.attributes_are(errors.Broken(3, shown="x"), ("index", "shown"), (3, "x"))

    def test_what_is_given_stays_as_it_was(self):
        given = [1, ["a"], {"b": 2}]
        for name, (_, names) in UNDER.items():
            made = getattr(errors, name)(*[given for _ in names])
            for attribute in names:
                self.assertIs(getattr(made, attribute), given)
        self.assertEqual(given, [1, ["a"], {"b": 2}])

    def test_of_its_classes_and_of_no_other(self):
        for name, (base, names) in UNDER.items():
            values = (5, 6)[:len(names)]
            by_name = dict(zip(names, values))
            for error in (getattr(errors, name)(*values), getattr(errors, name)(**by_name)):
                of = [other for other in [*BASES, *UNDER] if isinstance(error, getattr(errors, other))]
                pythons = [python for python in BASES.values() if isinstance(error, python)]
                with self.subTest(name=name):
                    self.assertEqual(of, [base, name])
                    self.assertEqual(pythons, [BASES[base]])

    def test_raised_and_caught(self):
        for name, (base, names) in UNDER.items():
            for caught in (getattr(errors, name), getattr(errors, base), BASES[base]):
                with self.subTest(name=name, caught=caught):
                    with self.assertRaises(caught) as told:
                        raise getattr(errors, name)(*(1, 2)[:len(names)])
                    self.attributes_are(told.exception, names, (1, 2))

    def test_equal_only_to_itself(self):
        for name, (_, names) in UNDER.items():
            one, other = [getattr(errors, name)(*(1, 2)[:len(names)]) for _ in range(2)]
            with self.subTest(name=name):
                self.assertEqual(one, one)
                self.assertNotEqual(one, other)
                self.assertTrue(one)


if __name__ == "__main__":
    unittest.main()
