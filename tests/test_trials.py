"""trial and tried: books that become again as they were."""

import unittest

from cases import Case
from holdhouse.books import Book
from holdhouse.errors import Broken, NothingToUndo, UnknownName
from holdhouse.samples import lost_house, sample_house
from test_books import CAN, BookCase, book_of


class Stop(BaseException):
    """No Exception, but an exception."""


class Trials(BookCase):
    def test_rows_that_end_well(self):
        book = book_of(a=sample_house())
        with book.trial() as given:
            self.assertIs(given, book)
            given["b"] = lost_house()
            given.wish(("kept", "a"))
        self.is_so(book, {"a": sample_house(), "b": lost_house()}, [("kept", "a")], 3)
        book.undo()
        book.undo()
        self.is_so(book, {"a": sample_house()}, [], 1)

    def test_rows_that_end_with_an_exception(self):
        for error in (ValueError("x"), Stop(), KeyboardInterrupt(), UnknownName("x"), SystemExit(0), StopIteration()):
            book = book_of(CAN, a=sample_house())
            with self.assertRaises(type(error)) as caught:
                with book.trial():
                    book.lift(0)
                    book["a"] = lost_house()
                    book["b"] = sample_house()
                    book.remove("a")
                    raise error
            self.assertIs(caught.exception, error)
            self.is_so(book, {"a": sample_house()}, [CAN], 2)

    def test_errors_of_the_book_itself(self):
        book = book_of(CAN, a=sample_house())
        with self.assertRaises(Broken):
            with book.trial():
                book["b"] = lost_house()
                book["a"] = lost_house()
        self.is_so(book, {"a": sample_house()}, [CAN], 2)

    def test_an_error_that_is_caught_inside(self):
        book = book_of(CAN, a=sample_house())
        with book.trial():
            book["b"] = lost_house()
            with self.assertRaises(Broken):
                book["a"] = lost_house()
        self.is_so(book, {"a": sample_house(), "b": lost_house()}, [CAN], 3)

    def test_changes_taken_back_in_a_trial(self):
        book = book_of(CAN, a=sample_house())
        with self.assertRaises(NothingToUndo):
            with book.trial():
                for turn in range(3):
                    book.undo()
        self.is_so(book, {"a": sample_house()}, [CAN], 2)
        book.undo()
        self.is_so(book, {"a": sample_house()}, [], 1)

    def test_as_it_was_when_the_rows_began(self):
        book = Book()
        trial = book.trial()
        book["a"] = sample_house()
        with self.assertRaises(ValueError):
            with trial:
                book["b"] = sample_house()
                raise ValueError
        self.is_so(book, {"a": sample_house()}, [], 1)

    def test_trials_in_trials(self):
        book = Book()
        with book.trial():
            book["a"] = sample_house()
            with self.assertRaises(ValueError):
                with book.trial():
                    book["b"] = sample_house()
                    raise ValueError
            self.is_so(book, {"a": sample_house()}, [], 1)
        self.is_so(book, {"a": sample_house()}, [], 1)
        with self.assertRaises(ValueError):
            with book.trial():
                with book.trial():
                    book["b"] = sample_house()
                book["c"] = sample_house()
                raise ValueError
        self.is_so(book, {"a": sample_house()}, [], 1)

    def test_one_trial_in_several_statements(self):
        book = Book()
        trial = book.trial()
        with self.assertRaises(ValueError):
            with trial:
                book["a"] = sample_house()
                with trial:
                    book["b"] = sample_house()
                raise ValueError
        self.is_so(book, {}, [], 0)
        with trial:
            book["a"] = sample_house()
        self.is_so(book, {"a": sample_house()}, [], 1)

    def test_return_and_break(self):
        book = Book()
        for turn in range(2):
            with book.trial():
                book["a"] = sample_house()
                break
        self.is_so(book, {"a": sample_house()}, [], 1)


class Tried(BookCase):
    def test_what_the_function_returns(self):
        book = book_of(a=sample_house())
        told = object()

        def action(given):
            self.assertIs(given, book)
            given["b"] = lost_house()
            return told

        self.assertIs(book.tried(action), told)
        self.is_so(book, {"a": sample_house(), "b": lost_house()}, [], 2)
        self.assertEqual(book.tried(action=lambda given: given.names), ("a", "b"))
        self.assertIs(book.tried(lambda given: None), None)

    def test_an_exception(self):
        book = book_of(CAN, a=sample_house())
        error = ValueError("x")

        def action(given):
            given["b"] = lost_house()
            given.lift(0)
            raise error

        for call in (lambda: book.tried(action), lambda: book.tried(action=action)):
            with self.assertRaises(ValueError) as caught:
                call()
            self.assertIs(caught.exception, error)
            self.is_so(book, {"a": sample_house()}, [CAN], 2)

    def test_a_trial_within(self):
        book = Book()
        book.tried(lambda given: given.tried(lambda same: same.put("a", sample_house())))
        self.is_so(book, {"a": sample_house()}, [], 1)


if __name__ == "__main__":
    unittest.main()
