"""Books beside a plain account of them, with wishes judged by the second accounts in model.py and model_hearings.py.

The houses and the changes are made by chance (always the same).
"""

import functools
import random
import unittest

import model
import model_hearings
from cases import Case
from examples import LOST_TEXT, SAMPLE_TEXT
from holdhouse.books import Book
from holdhouse.errors import Broken, InUse, InvalidPicture, NothingToUndo, UnknownName
from holdhouse.hearings import hears
from holdhouse.houses import House
from holdhouse.moments import play

FEW_SHAPES = 30
LONGEST = 5
NAMES = ("a", "b", "c")
ASKS = {"never": model.Web.first, "can": model.Web.stuck, "kept": model.Web.away}


@functools.lru_cache(maxsize=None)
def webs_of(text):
    return model.small_webs(House.read(text), FEW_SHAPES)


@functools.lru_cache(maxsize=None)
def hearings_of(text):
    return model_hearings.Told(House.read(text), webs_of(text)).hearings(LONGEST)


def houses_by_chance(chance, many):
    """Small houses, some of them much alike."""
    found = [House.read(SAMPLE_TEXT), House.read(LOST_TEXT)]
    while len(found) < many:
        house = model.random_house(chance.random(), chance.choice((1, 1, 2)), chance.randint(1, 6), 2, chance.choice((2, 4)))
        if chance.random() < 0.6:
            house = model_hearings.bent_house(chance, chance.choice(found))
        if webs_of(str(house)) is not None:
            found.append(house)
    return found


class Account:
    """Houses by their names, and wishes; it keeps what stood before each change."""

    def __init__(self):
        self.houses, self.wishes, self.before = {}, [], []

    def change(self, houses, wishes):
        self.before.append((self.houses, self.wishes))
        self.houses, self.wishes = houses, wishes

    def undo(self):
        self.houses, self.wishes = self.before.pop()

    def copy(self):
        other = Account()
        other.houses, other.wishes, other.before = self.houses, self.wishes, list(self.before)
        return other

    def content(self):
        return sorted((name, str(house)) for name, house in self.houses.items()), tuple(self.wishes), len(self.before)


def names_in(wish):
    return wish[1:] if wish[0] == "within" else wish[1:2]


def pictures_in(wish):
    return wish[2:] if wish[0] in ("never", "can") else ()


class Books(Case):
    def setUp(self):
        self.counts = {}

    def content(self, book):
        return [(name, str(book[name])) for name in book.names], book.wishes, book.changes

    def wrong_picture(self, house, wishes):
        stands = [stand for stand, sound in house.stands]
        for wish in wishes:
            for picture in pictures_in(wish):
                words = [condition.split(" ")[-1] for condition in picture.split(" and ") if "in " in condition]
                if not set(words) <= set(stands):
                    return picture
        return None

    def holds(self, houses, wish, shown):
        """Whether the wish holds; if it does not, `shown` must be what it is shown by."""
        if wish[0] == "within":
            return self.is_within(houses[wish[1]], houses[wish[2]], shown)
        house = houses[wish[1]]
        expected = model.fewest(webs_of(str(house)), lambda web: ASKS[wish[0]](web, *wish[2:]))
        if shown is not None and expected is not None:
            self.assertEqual((shown[0], len(shown[1])), expected)
            play(house, shown)
        return expected is None

    def is_within(self, one, other, shown):
        words = model_hearings.parting(hearings_of(str(one)), hearings_of(str(other)))
        if words is not None and shown is not None:
            self.assertEqual(shown, words)
        if words is None and shown is not None and len(shown) > LONGEST:
            return hears(other, shown) or not hears(one, shown)
        return words is None

    def try_change(self, book, account, call, more, asked):
        """Make the change; compare what the book says of it with the account, `asked` are the wishes that it touches."""
        try:
            call()
        except InvalidPicture as error:
            self.count("picture")
            self.assertEqual(error.given, self.wrong_picture(more[0][asked[0]], asked[1]))
            return
        except Broken as error:
            self.count("broken " + more[1][error.index][0])
            self.assertIs(self.wrong_picture(more[0][asked[0]], asked[1]), None)
            for wish in more[1][:error.index]:
                self.assertTrue(self.holds(more[0], wish, None))
            self.assertIsNotNone(error.shown)
            self.assertFalse(self.holds(more[0], more[1][error.index], error.shown))
            return
        self.count("kept")
        self.assertIs(self.wrong_picture(more[0][asked[0]], asked[1]), None)
        for wish in more[1]:
            self.assertTrue(self.holds(more[0], wish, None))
        account.change(*more)

    def count(self, word):
        self.counts[word] = self.counts.get(word, 0) + 1

    def put(self, chance, book, account, houses):
        name, house = chance.choice(NAMES), chance.choice(houses)
        more = {**account.houses, name: house}, account.wishes
        asked = name, [wish for wish in account.wishes if name in names_in(wish)]
        if chance.random() < 0.5:
            self.try_change(book, account, lambda: book.put(name, house), more, asked)
        else:
            self.try_change(book, account, lambda: book.__setitem__(name, house), more, asked)

    def wish(self, chance, book, account, houses):
        name, other = chance.choice(NAMES), chance.choice(NAMES)
        pictures = [model.random_picture(chance, chance.choice(houses)) for which in range(2)]
        wish = chance.choice((("never", name, pictures[0]), ("can", name, *pictures), ("kept", name),
                              ("within", name, other)))
        for one in names_in(wish):
            if one not in account.houses:
                self.count("unknown")
                self.raises(UnknownName, "given", one, book.wish, wish)
                return
        more = account.houses, [*account.wishes, wish]
        self.try_change(book, account, lambda: book.wish(wish), more, (name, [wish]))

    def lift(self, chance, book, account, houses):
        if account.wishes:
            at = chance.randrange(len(account.wishes))
            book.lift(at)
            account.change(account.houses, account.wishes[:at] + account.wishes[at + 1:])

    def remove(self, chance, book, account, houses):
        name = chance.choice(NAMES)
        uses = [at for at, wish in enumerate(account.wishes) if name in names_in(wish)]
        if name not in account.houses:
            self.raises(UnknownName, "given", name, book.remove, name)
        elif uses:
            self.count("in use")
            self.raises(InUse, "index", uses[0], book.remove, name)
        else:
            book.remove(name)
            account.change({other: house for other, house in account.houses.items() if other != name}, account.wishes)

    def undo(self, chance, book, account, houses):
        if account.before:
            self.count("undone")
            book.undo()
            account.undo()
        else:
            with self.assertRaises(NothingToUndo):
                book.undo()

    def test_changes_by_chance(self):
        ways = [self.put, self.put, self.put, self.wish, self.wish, self.wish, self.lift, self.remove, self.undo]
        for seed in range(25):
            chance = random.Random(f"book {seed}")
            book, account, houses = Book(), Account(), houses_by_chance(chance, 6)
            for turn in range(30):
                chance.choice(ways)(chance, book, account, houses)
                self.assertEqual(self.content(book), account.content())
        expected = ["broken can", "broken kept", "broken never", "broken within", "in use", "kept", "picture", "undone",
                    "unknown"]
        self.assertEqual(sorted(self.counts), expected)
        self.assertGreater(min(self.counts.values()), 3)
        self.assertGreater(self.counts["kept"], 150)

    def test_trials_by_chance(self):
        ways = [self.put, self.put, self.wish, self.lift, self.remove, self.undo]
        for seed in range(10):
            chance = random.Random(f"trial {seed}")
            book, account, houses = Book(), Account(), houses_by_chance(chance, 4)
            for turn in range(6):
                before, kept = self.content(book), account.copy()
                ends = chance.random() < 0.5
                try:
                    with book.trial():
                        for again in range(4):
                            chance.choice(ways)(chance, book, account, houses)
                        if ends:
                            raise LookupError
                except LookupError:
                    account = kept
                    self.assertEqual(self.content(book), before)
                self.assertEqual(self.content(book), account.content())


if __name__ == "__main__":
    unittest.main()
