"""Book: houses under names, wishes, undo, and what a book is like."""

import unittest

from cases import Case, house_of
from examples import MANY_SHAPES_TEXT
from holdhouse import books
from holdhouse.books import Book
from holdhouse.houses import House
from holdhouse.questions import called_away, first, stuck
from holdhouse.hearings import parting_hearing
from holdhouse.samples import joining_house, lost_house, sample_house

METHODS = ("put", "remove", "wish", "lift", "undo", "trial", "tried", "__setitem__", "__getitem__", "__contains__",
           "__len__", "__bool__")
CAN = ("can", "a", "in held", "voice")


class BookCase(Case):
    def is_so(self, book, houses, wishes, changes):
        """The book has just these houses, wishes and changes."""
        self.assertEqual(book.names, tuple(sorted(houses)))
        self.assertEqual(repr(book.wishes), repr(tuple(wishes)))
        self.assertEqual((len(book), book.changes), (len(houses), changes))
        for name, house in houses.items():
            self.assertIn(name, book)
            self.assertEqual(book[name], house)

    def breaks(self, index, shown, call, *values, **by_name):
        """The call raises Broken with just this, and tells the very weaving or hearing."""
        with self.assertRaises(books.Broken) as caught:
            call(*values, **by_name)
        self.assertIs(type(caught.exception), books.Broken)
        self.assertEqual(repr(vars(caught.exception)), repr({"index": index, "shown": shown}))
        self.assertIsNotNone(shown)


def book_of(*wishes, **houses):
    book = Book()
    for name, house in houses.items():
        book.put(name, house)
    for wish in wishes:
        book.wish(wish)
    return book


class Defined(unittest.TestCase):
    def test_in_its_file(self):
        self.assertEqual(Book.__module__, "holdhouse.books")
        for name in METHODS:
            self.assertIn(name, vars(Book))
        for name in ("names", "wishes", "changes"):
            self.assertIsInstance(vars(Book)[name], property)


class Houses(BookCase):
    def test_a_new_book(self):
        self.is_so(Book(), {}, [], 0)
        self.assertEqual((Book().names, Book().wishes), ((), ()))

    def test_put(self):
        book = Book()
        self.assertIs(book.put("b", sample_house()), None)
        self.assertIs(book.put(house=lost_house(), name="a"), None)
        self.is_so(book, {"a": lost_house(), "b": sample_house()}, [], 2)
        book.put("b", joining_house())
        self.is_so(book, {"a": lost_house(), "b": joining_house()}, [], 3)

    def test_set_an_item(self):
        book = Book()
        book["b"] = sample_house()
        book["a"] = lost_house()
        book["b"] = joining_house()
        self.is_so(book, {"a": lost_house(), "b": joining_house()}, [], 3)

    def test_names(self):
        book = Book()
        for name in ("z", "a", "and", "if", "not", "voice", "gone", "abcdefgh", "zzzzzzzz"):
            book[name] = sample_house()
        self.assertEqual(book.names, ("a", "abcdefgh", "and", "gone", "if", "not", "voice", "z", "zzzzzzzz"))

    def test_the_house_itself(self):
        house = sample_house()
        book = book_of(a=house)
        self.assertIs(book["a"], house)

    def test_remove(self):
        book = book_of(a=sample_house(), b=lost_house())
        self.assertIs(book.remove("a"), None)
        self.is_so(book, {"b": lost_house()}, [], 3)
        book.remove(name="b")
        self.is_so(book, {}, [], 4)
        self.assertNotIn("a", book)

    def test_in(self):
        book = book_of(a=sample_house())
        self.assertIs("a" in book, True)
        for thing in ("b", "", "A", b"a", None, 0, True, ("a",), ["a"], {}, {"a"}, sample_house(), object(), str):
            self.assertIs(thing in book, False)

    def test_truth(self):
        self.assertIs(bool(Book()), True)
        self.assertIs(bool(book_of(a=sample_house())), True)

    def test_equality(self):
        book = book_of(a=sample_house())
        self.assertTrue(book == book)
        self.assertFalse(book != book)
        for other in (book_of(a=sample_house()), Book(), None, ("a",), sample_house()):
            self.assertFalse(book == other)
            self.assertTrue(book != other)
        self.assertFalse(Book() == Book())

    def test_books_do_not_share_anything(self):
        one, other = Book(), Book()
        one["a"] = sample_house()
        self.is_so(other, {}, [], 0)

    def test_what_was_told_stays(self):
        book = book_of(CAN, a=sample_house())
        names, wishes = book.names, book.wishes
        book.lift(0)
        book.remove("a")
        self.assertEqual((names, wishes), (("a",), (CAN,)))

    def test_houses_with_too_many_shapes_as_long_as_no_wish_names_them(self):
        book = book_of(CAN, a=sample_house(), many=House.read(MANY_SHAPES_TEXT))
        self.assertEqual(book.names, ("a", "many"))
        book.put("many", House.read(MANY_SHAPES_TEXT))
        self.assertEqual(book.changes, 4)


class Wishes(BookCase):
    def test_each_kind(self):
        book = book_of(a=sample_house(), b=lost_house())
        wishes = [("never", "a", "voice and not caller"), CAN, ("kept", "b"), ("within", "b", "a"), ("within", "a", "a")]
        for wish in wishes:
            self.assertIs(book.wish(wish), None)
        book.wish(wish=("kept", "a"))
        self.is_so(book, {"a": sample_house(), "b": lost_house()}, [*wishes, ("kept", "a")], 8)

    def test_the_same_wish_twice(self):
        book = book_of(CAN, CAN, a=sample_house())
        self.is_so(book, {"a": sample_house()}, [CAN, CAN], 3)

    def test_lift(self):
        wishes = [CAN, ("kept", "a"), ("never", "a", "b")]
        book = book_of(*wishes, a=sample_house())
        self.assertIs(book.lift(1), None)
        self.is_so(book, {"a": sample_house()}, [wishes[0], wishes[2]], 5)
        book.lift(index=0)
        book.lift(0)
        self.is_so(book, {"a": sample_house()}, [], 7)

    def test_wishes_that_do_not_hold(self):
        taking = sample_house().changed(3, "key take if not in free: a me, hear, stand talk")
        book = book_of(("kept", "lost"), a=sample_house(), lost=lost_house(), taking=taking)
        for wish, shown in ((("never", "a", "in held"), first(sample_house(), "in held")),
                            (("never", "a", "in free"), (1, ())),
                            (("can", "lost", "in held", "voice"), stuck(lost_house(), "in held", "voice")),
                            (("kept", "taking"), called_away(taking)),
                            (("within", "a", "lost"), ("tone", "voice", "music", "voice"))):
            with self.subTest(wish=wish):
                self.breaks(1, shown, book.wish, wish)
                self.breaks(1, shown, book.wish, wish=wish)
        self.assertEqual((book.wishes, book.changes), ((("kept", "lost"),), 4))

    def test_the_order_of_the_names_in_within(self):
        book = book_of(("within", "lost", "a"), a=sample_house(), lost=lost_house())
        self.breaks(1, parting_hearing(sample_house(), lost_house()), book.wish, ("within", "a", "lost"))

    def test_puts_that_break_wishes(self):
        taking = sample_house().changed(3, "key take if not in free: a me, hear, stand talk")
        book = book_of(("never", "a", "b"), CAN, ("kept", "a"), ("within", "a", "w"), a=sample_house(), w=sample_house())
        for house, index, shown in (
                (lost_house(), 1, stuck(lost_house(), "in held", "voice")),
                (taking, 2, called_away(taking)),
                (sample_house().changed(0, "call: b some, stand ring"), 0, (1, (("call", 0, (0,)),))),
                (sample_house().changed(0, "call: a some, stand talk"), 3, ("quiet",))):
            with self.subTest(house=str(house)):
                self.breaks(index, shown, book.put, "a", house)
                self.breaks(index, shown, book.__setitem__, "a", house)
                self.assertEqual((book["a"], book.changes), (sample_house(), 6))

    def test_the_first_wish_that_does_not_hold(self):
        book = book_of(("kept", "b"), ("never", "a", "b"), ("never", "a", "a and b"), a=sample_house(), b=lost_house())
        house = sample_house().changed(0, "call: a some, b some, stand ring")
        self.breaks(1, first(house, "b"), book.put, "a", house)
        book.lift(1)
        self.breaks(1, first(house, "a and b"), book.put, "a", house)
        book.lift(1)
        book.put("a", house)

    def test_a_house_in_the_second_place_of_within(self):
        book = book_of(("within", "a", "w"), a=lost_house(), w=sample_house())
        book.put("w", lost_house())
        self.breaks(0, ("tone",), book.put, "w", house_of(1, "free talk", ""))
        book.put("w", sample_house())
        book.put("a", sample_house())
        self.breaks(0, ("tone", "voice", "music", "voice"), book.put, "w", lost_house())

    def test_wishes_do_not_matter_for_other_houses(self):
        book = book_of(CAN, a=sample_house())
        book["b"] = lost_house()
        book.remove("b")
        self.assertEqual(book.changes, 4)

    def test_a_put_after_the_wish_was_lifted(self):
        book = book_of(CAN, a=sample_house())
        book.lift(0)
        book["a"] = lost_house()
        self.is_so(book, {"a": lost_house()}, [], 4)

    def test_words_of_the_rows_as_names(self):
        book = book_of(("within", "never", "kept"), ("kept", "can"), never=lost_house(), kept=sample_house(),
                       can=sample_house())
        self.assertEqual(book.names, ("can", "kept", "never"))


class Undo(BookCase):
    def test_each_change(self):
        book = Book()
        states = []
        for change in (lambda: book.put("a", sample_house()), lambda: book.put("b", lost_house()),
                       lambda: book.put("b", joining_house()), lambda: book.wish(CAN), lambda: book.wish(("kept", "b")),
                       lambda: book.lift(1), lambda: book.remove("b"), lambda: book.put("a", sample_house())):
            states.append(({name: book[name] for name in book.names}, book.wishes, book.changes))
            change()
        self.assertEqual(book.changes, 8)
        for state in reversed(states):
            self.assertIs(book.undo(), None)
            self.is_so(book, *state)
        self.assertEqual(book.changes, 0)

    def test_what_cannot_be_taken_back_again(self):
        book = book_of(a=sample_house(), b=lost_house())
        book.undo()
        book["c"] = joining_house()
        book.undo()
        self.is_so(book, {"a": sample_house()}, [], 1)
        book.undo()
        self.is_so(book, {}, [], 0)

    def test_a_change_that_leaves_all_as_it_was(self):
        book = book_of(a=sample_house())
        book["a"] = sample_house()
        self.assertEqual(book.changes, 2)
        book.undo()
        self.is_so(book, {"a": sample_house()}, [], 1)

    def test_wishes_hold_behind_an_undo(self):
        book = book_of(CAN, a=sample_house())
        book.lift(0)
        book["a"] = lost_house()
        book.undo()
        book.undo()
        self.breaks(0, stuck(lost_house(), "in held", "voice"), book.put, "a", lost_house())
        self.is_so(book, {"a": sample_house()}, [CAN], 2)

    def test_many_changes(self):
        book = Book()
        for turn in range(3000):
            book["a"] = sample_house()
        self.assertEqual(book.changes, 3000)
        for turn in range(3000):
            book.undo()
        self.is_so(book, {}, [], 0)


if __name__ == "__main__":
    unittest.main()
