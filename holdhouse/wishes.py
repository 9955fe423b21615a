"""Wishes: what must hold for the houses of a book, and what shows that it does not."""

from holdhouse.answers import away_weaving, first_weaving, stuck_weaving
from holdhouse.partings import parting_words
from holdhouse.stories import Stories
from holdhouse.walks import all_walks

# How many names, and how many pictures behind them, a wish of each kind has.
NAMES = {"never": 1, "can": 1, "kept": 1, "within": 2}
PICTURES = {"never": 1, "can": 2, "kept": 0, "within": 0}


def is_wish_form(thing):
    """Whether it is a tuple of the word of a kind of wishes, and as much behind it as this kind has."""
    if not isinstance(thing, tuple) or not thing or not isinstance(thing[0], str):
        return False
    return thing[0] in NAMES and len(thing) == 1 + NAMES[thing[0]] + PICTURES[thing[0]]


def names_of(wish):
    """The names in a wish."""
    return wish[1:1 + NAMES[wish[0]]]


def pictures_of(wish):
    """The pictures in a wish, those of the goal included."""
    return wish[1 + NAMES[wish[0]]:]


class Asked:
    """The walks of houses under names, each looked for once."""

    def __init__(self, houses):
        self.houses = houses
        self.known = {}

    def walks_of(self, name):
        """The walks of the house with this name; an error if too many shapes come."""
        if name not in self.known:
            self.known[name] = all_walks(self.houses[name])
        return self.known[name]

    def shown_against(self, wish):
        """What shows that the wish does not hold; None if it holds."""
        walks = self.walks_of(wish[1])
        if wish[0] == "never":
            return first_weaving(walks, wish[2])
        if wish[0] == "can":
            return stuck_weaving(walks, wish[2], wish[3])
        if wish[0] == "kept":
            return away_weaving(walks)
        return parting_words(Stories(walks), Stories(self.walks_of(wish[2])))
