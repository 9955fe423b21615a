"""What several tests of moments and questions share."""

import unittest

from examples import OTHER_THINGS
from holdhouse.houses import House
from holdhouse.moments import begin

NO_HOUSES = OTHER_THINGS + (0, 1, "", "lines 1", (), (1, ()), House)
NO_INTEGERS = OTHER_THINGS + ("0", "1", "", (), (0,), (1,))


class Case(unittest.TestCase):
    def raises(self, kind, name, told, call, /, *values, **by_name):
        """The call raises just this error, which keeps just this (the very thing, if it is what was given)."""
        with self.assertRaises(kind) as caught:
            call(*values, **by_name)
        self.assertIs(type(caught.exception), kind)
        self.assertEqual(list(vars(caught.exception)), [name])
        if name == "given":
            self.assertIs(caught.exception.given, told)
        else:
            self.assertEqual(getattr(caught.exception, name), told)
            self.assertIs(type(getattr(caught.exception, name)), type(told))

    def stands_so(self, moment, stands, callers, places, mates, ears):
        """The moment has just these properties, with truth values, integers and tuples where they belong."""
        found = (moment.stands, moment.callers, moment.places, moment.mates, moment.ears)
        self.assertEqual(repr(found), repr((stands, callers, places, mates, ears)))


def house_of(lines, stands, keys, *rows):
    """A house whose stands sound like their words, backwards."""
    pairs = tuple((word, word[::-1]) for word in stands.split(" "))
    return House(lines, pairs, tuple(keys.split()), rows)


def behind(house, phones, *events):
    """The moment behind these events."""
    moment = begin(house, phones)
    for event in events:
        moment = moment.after(event)
    return moment
