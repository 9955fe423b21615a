"""What books refuse: each error, the first of several, and that nothing is altered."""

import random
import unittest
from unittest import mock

from cases import NO_HOUSES, Case
from examples import MANY_SHAPES_TEXT, ONE_SHAPE_TOO_MANY_TEXT, OTHER_THINGS
from holdhouse.books import Book
from holdhouse.errors import (Broken, InUse, InvalidIndex, InvalidName, InvalidPicture, InvalidWish, NotAHouse,
                              NothingToUndo, TooMany, UnknownName)
from holdhouse.hearings import parting_hearing
from holdhouse.houses import House
from holdhouse.questions import called_away, first, stuck
from holdhouse.samples import joining_house, lost_house, sample_house
from test_books import CAN, book_of

NO_NAMES = OTHER_THINGS + (0, 1, "", "A", "aB", "abcdefghi", "a b", " a", "a1", "a_", "a\n", (), ("a",), mock.ANY)
UNKNOWN = NO_NAMES + ("b", "can", "never")
NO_WISHES = OTHER_THINGS + (
    0, "", "kept", (), ("kept",), ("kept", "a", "b"), ["kept", "a"], ("never", "a"), ("never", "a", "b", "c"),
    ("can", "a", "b"), ("can", "a", "b", "a", "b"), ("within", "a"), ("within", "a", "a", "a"), ("comes", "a", "b"),
    ("Kept", "a"), ("kept ", "a"), (b"kept", "a"), (None, "a"), (("kept",), "a"), (["kept"], "a"), (1, "a"),
    ("away", "a"), ("stuck", "a", "b", "a"), ("", "a"), mock.ANY, (mock.ANY, "a"))
NO_PICTURES = OTHER_THINGS + (0, "", "in ring ", "me a", "busy", "in park", "a and b and a and b and a", ("a",), mock.ANY)


class WrongCase(Case):
    def refused(self, book, kind, name, told, call, /, *values, **by_name):
        """The call raises just this error, and the book is as it was."""
        before = self.content(book)
        self.raises(kind, name, told, call, *values, **by_name)
        self.assertEqual(self.content(book), before)

    def content(self, book):
        return [(name, str(book[name])) for name in book.names], book.wishes, book.changes


class Names(WrongCase):
    def test_no_names(self):
        book = book_of(CAN, a=sample_house())
        for name in NO_NAMES:
            with self.subTest(name=name):
                self.refused(book, InvalidName, "given", name, book.put, name, sample_house())
                self.refused(book, InvalidName, "given", name, book.put, house=None, name=name)
                self.refused(book, InvalidName, "given", name, book.__setitem__, name, None)

    def test_no_houses(self):
        book = book_of(CAN, a=sample_house())
        for thing in NO_HOUSES:
            with self.subTest(thing=thing):
                for name in ("a", "b"):
                    self.refused(book, NotAHouse, "given", thing, book.put, name, thing)
                    self.refused(book, NotAHouse, "given", thing, book.put, house=thing, name=name)
                    self.refused(book, NotAHouse, "given", thing, book.__setitem__, name, thing)

    def test_unknown_names(self):
        book = book_of(CAN, a=sample_house())
        for name in UNKNOWN:
            with self.subTest(name=name):
                self.refused(book, UnknownName, "given", name, book.__getitem__, name)
                self.refused(book, UnknownName, "given", name, book.remove, name)
                self.refused(book, UnknownName, "given", name, book.remove, name=name)

    def test_names_that_were_taken_away(self):
        book = book_of(a=sample_house())
        book.remove("a")
        self.refused(book, UnknownName, "given", "a", book.__getitem__, "a")
        self.refused(book, UnknownName, "given", "a", book.remove, "a")

    def test_names_in_use(self):
        book = book_of(("kept", "b"), ("within", "b", "w"), ("kept", "w"), ("never", "v", "b"), CAN,
                       a=sample_house(), b=lost_house(), v=sample_house(), w=sample_house())
        for name, index in (("a", 4), ("b", 0), ("v", 3), ("w", 1)):
            self.refused(book, InUse, "index", index, book.remove, name)
        book.lift(0)
        self.refused(book, InUse, "index", 0, book.remove, "b")
        book.lift(0)
        book.remove("b")


class WrongWishes(WrongCase):
    def test_no_wishes(self):
        book = book_of(CAN, a=sample_house())
        for wish in NO_WISHES:
            with self.subTest(wish=wish):
                self.refused(book, InvalidWish, "given", wish, book.wish, wish)
                self.refused(book, InvalidWish, "given", wish, book.wish, wish=wish)

    def test_unknown_names(self):
        book = book_of(CAN, a=sample_house())
        for name in UNKNOWN:
            with self.subTest(name=name):
                for wish in (("never", name, None), ("can", name, None, 0), ("kept", name), ("within", name, None),
                             ("within", "a", name)):
                    self.refused(book, UnknownName, "given", name, book.wish, wish)

    def test_no_pictures(self):
        book = book_of(CAN, a=sample_house())
        for picture in NO_PICTURES:
            with self.subTest(picture=picture):
                for wish in (("never", "a", picture), ("can", "a", picture, None), ("can", "a", "b", picture)):
                    self.refused(book, InvalidPicture, "given", picture, book.wish, wish)

    def test_stands_of_another_house(self):
        book = book_of(("never", "a", "b"), a=sample_house(), j=joining_house())
        self.refused(book, InvalidPicture, "given", "in held", book.wish, ("can", "j", "b", "in held"))

    def test_no_indexes(self):
        for book, many in ((book_of(CAN, ("kept", "a"), a=sample_house()), 2), (Book(), 0)):
            for index in OTHER_THINGS + ("0", (), (0,), -1, many, many + 1, 10 ** 39, -10 ** 39, mock.ANY):
                with self.subTest(index=index):
                    self.refused(book, InvalidIndex, "given", index, book.lift, index)
                    self.refused(book, InvalidIndex, "given", index, book.lift, index=index)


class Puts(WrongCase):
    def test_pictures_of_wishes_that_are_none_of_the_new_house(self):
        book = book_of(("never", "b", "in held and b"), ("kept", "a"), ("never", "a", "b"), ("can", "a", "in ring", "caller"),
                       ("can", "a", "b", "in held"), ("never", "a", "in held and b"), a=sample_house(), b=sample_house())
        self.refused(book, InvalidPicture, "given", "in held", book.put, "a", joining_house())
        self.refused(book, InvalidPicture, "given", "in held and b", book.put, "b", joining_house())
        book.lift(4)
        self.refused(book, InvalidPicture, "given", "in held and b", book.put, "a", joining_house())
        book.lift(4)
        book.put("a", joining_house())

    def test_the_picture_before_the_goal(self):
        book = book_of(("can", "a", "in held and b", "in held"), a=sample_house())
        self.refused(book, InvalidPicture, "given", "in held and b", book.put, "a", joining_house())

    def test_pictures_before_too_many_and_before_broken(self):
        many = House.read(MANY_SHAPES_TEXT.replace("held", "park"))
        book = book_of(("never", "a", "b"), ("never", "a", "in held and b"), a=sample_house())
        self.refused(book, InvalidPicture, "given", "in held and b", book.put, "a", many)
        house = House.read(str(sample_house()).replace("held", "park")).changed(0, "call: b some, stand ring")
        self.refused(book, InvalidPicture, "given", "in held and b", book.put, "a", house)

    def test_too_many(self):
        for text in (MANY_SHAPES_TEXT, ONE_SHAPE_TOO_MANY_TEXT):
            many = House.read(text)
            for wishes in ([("kept", "a")], [("within", "a", "w")], [("within", "w", "a")], [("never", "a", "b")], [CAN]):
                book = book_of(*wishes, a=sample_house(), w=sample_house())
                self.refused(book, TooMany, "most", 3000, book.put, "a", many)

    def test_wishes_for_houses_with_too_many_shapes(self):
        book = book_of(CAN, a=sample_house(), many=House.read(MANY_SHAPES_TEXT))
        for wish in (("never", "many", "in free"), ("can", "many", "b", "b"), ("kept", "many"), ("within", "many", "a"),
                     ("within", "a", "many"), ("within", "many", "many")):
            self.refused(book, TooMany, "most", 3000, book.wish, wish)
        self.refused(book, InvalidPicture, "given", "in park", book.wish, ("never", "many", "in park"))
        self.refused(book, UnknownName, "given", "b", book.wish, ("within", "many", "b"))

    def test_too_many_before_broken(self):
        many = House.read(MANY_SHAPES_TEXT)
        book = book_of(("never", "a", "in ring and b"), ("kept", "a"), a=sample_house())
        self.refused(book, TooMany, "most", 3000, book.put, "a", many)

    def test_houses_of_other_wishes_are_not_asked(self):
        book = book_of(CAN, a=sample_house())
        book.put("many", House.read(MANY_SHAPES_TEXT))
        book.put("b", lost_house())
        self.assertEqual(book.names, ("a", "b", "many"))


class NoUndo(WrongCase):
    def test_nothing_to_undo(self):
        book = Book()
        for turn in range(2):
            with self.assertRaises(NothingToUndo) as caught:
                book.undo()
            self.assertEqual((type(caught.exception), vars(caught.exception)), (NothingToUndo, {}))
            book.put("a", sample_house())
            book.undo()

    def test_what_was_refused_is_no_change(self):
        book = book_of(CAN, a=sample_house())
        for call, values in ((book.put, ("a", lost_house())), (book.wish, (("never", "a", "a"),)), (book.remove, ("a",)),
                             (book.lift, (1,)), (book.put, ("A", lost_house()))):
            with self.assertRaises((Broken, InUse, InvalidIndex, InvalidName)):
                call(*values)
        self.assertEqual(book.changes, 2)
        book.undo()
        self.assertEqual((book.changes, book.wishes), (1, ()))


class Chance(WrongCase):
    """Changes by chance, beside a plain account of a book that asks all wishes anew each time."""

    HOUSES = (sample_house(), lost_house(), joining_house(), sample_house().without(3),
              sample_house().changed(3, "key take if not in free: a me, hear, stand talk"),
              sample_house().changed(0, "call: a some, b some, stand ring"))
    PICTURES = ("in held", "voice", "caller and not voice", "b", "in ring", "not a and not in free", "stranger")

    def shown(self, houses, wish):
        if wish[0] == "never":
            return first(houses[wish[1]], wish[2])
        if wish[0] == "can":
            return stuck(houses[wish[1]], wish[2], wish[3])
        if wish[0] == "kept":
            return called_away(houses[wish[1]])
        return parting_hearing(houses[wish[1]], houses[wish[2]])

    def expected(self, houses, wishes):
        """The error that the first wish that does not hold must raise, or None."""
        for wish in wishes:
            for picture in wish[2:] if wish[0] in ("never", "can") else ():
                if "held" in picture and houses[wish[1]] == joining_house():
                    return InvalidPicture, {"given": picture}
        for index, wish in enumerate(wishes):
            if self.shown(houses, wish) is not None:
                return Broken, {"index": index, "shown": self.shown(houses, wish)}
        return None

    def change(self, book, houses, wishes, call):
        """Make the change, if it may be made; whether it was."""
        expected = self.expected(houses, wishes)
        try:
            call()
        except (Broken, InvalidPicture) as error:
            self.assertEqual((type(error), vars(error)), expected)
            return False
        self.assertIs(expected, None)
        self.assertEqual({name: book[name] for name in book.names}, houses)
        self.assertEqual(list(book.wishes), wishes)
        return True

    def wish_by_chance(self, chance):
        a, b = chance.choice("ab"), chance.choice("ab")
        picture, goal = chance.choice(self.PICTURES), chance.choice(self.PICTURES)
        return chance.choice((("never", a, picture), ("can", a, picture, goal), ("kept", a), ("within", a, b)))

    def test_changes(self):
        counts = {True: 0, False: 0}
        for seed in range(6):
            chance = random.Random(seed)
            houses, wishes = {"a": sample_house(), "b": chance.choice(self.HOUSES)}, []
            book = book_of(**houses)
            for turn in range(40):
                way = chance.choice(("put", "put", "wish", "wish", "lift"))
                more, more_wishes = dict(houses), list(wishes)
                if way == "put":
                    name, house = chance.choice("ab"), chance.choice(self.HOUSES)
                    more[name] = house
                    done = self.change(book, more, more_wishes, lambda: book.put(name, house))
                elif way == "wish":
                    wish = self.wish_by_chance(chance)
                    more_wishes.append(wish)
                    done = self.change(book, more, more_wishes, lambda: book.wish(wish))
                elif wishes:
                    at = chance.randrange(len(wishes))
                    del more_wishes[at]
                    done = self.change(book, more, more_wishes, lambda: book.lift(at))
                if done:
                    houses, wishes = more, more_wishes
                counts[done] += 1
        self.assertGreater(min(counts.values()), 40)


if __name__ == "__main__":
    unittest.main()
