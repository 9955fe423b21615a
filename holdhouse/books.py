"""Books: houses under names, with wishes that hold after each change."""

from holdhouse.arguments import check_house, check_picture
from holdhouse.checks import LONGEST_WORD, is_between
from holdhouse.errors import Broken, InUse, InvalidIndex, InvalidName, InvalidWish, NothingToUndo, UnknownName
from holdhouse.wishes import Asked, is_wish_form, names_of, pictures_of


class Page:
    """What stands in a book between two changes. It never changes, so a book can go back to it."""

    def __init__(self, houses, wish_row, before):
        self.houses = houses
        self.wish_row = wish_row
        # The page ahead of the last change that can be taken back, or None.
        self.before = before
        self.depth = 0 if before is None else before.depth + 1


class Book:
    """Houses under names, and wishes."""

    def __init__(self):
        self.page = Page({}, (), None)

    def put(self, name, house):
        """Put a house under a name."""
        if not is_name(name):
            raise InvalidName(name)
        check_house(house)
        wish_row = self.page.wish_row
        touched = [at for at, wish in enumerate(wish_row) if name in names_of(wish)]
        for at in touched:
            check_pictures(house, wish_row[at])
        houses = {**self.page.houses, name: house}
        # The other wishes held before, and their houses are the same.
        check_wishes(houses, wish_row, touched)
        self.turn_to(houses, wish_row)

    def remove(self, name):
        """Take the house under a name away."""
        self.check_known(name)
        for at, wish in enumerate(self.page.wish_row):
            if name in names_of(wish):
                raise InUse(at)
        houses = {other: self.page.houses[other] for other in self.page.houses if other != name}
        self.turn_to(houses, self.page.wish_row)

    def wish(self, wish):
        """Add a wish behind the others."""
        if not is_wish_form(wish):
            raise InvalidWish(wish)
        for name in names_of(wish):
            self.check_known(name)
        check_pictures(self.page.houses[wish[1]], wish)
        wish_row = (*self.page.wish_row, wish)
        check_wishes(self.page.houses, wish_row, [len(wish_row) - 1])
        self.turn_to(self.page.houses, wish_row)

    def lift(self, index):
        """Take the wish with this index away."""
        wish_row = self.page.wish_row
        if not is_between(index, 0, len(wish_row) - 1):
            raise InvalidIndex(index)
        self.turn_to(self.page.houses, wish_row[:index] + wish_row[index + 1:])

    def undo(self):
        """Take back the last change that was not taken back yet."""
        if self.page.before is None:
            raise NothingToUndo()
        self.page = self.page.before

    def turn_to(self, houses, wish_row):
        """Change the book to these houses and wishes."""
        self.page = Page(houses, wish_row, self.page)

    def check_known(self, name):
        """Raise an error if this is no name of the book."""
        if name not in self:
            raise UnknownName(name)

    @property
    def names(self):
        """The ascending tuple of the names."""
        return tuple(sorted(list(self.page.houses)))

    @property
    def wishes(self):
        """The tuple of the wishes, in their order."""
        return self.page.wish_row

    @property
    def changes(self):
        """How many changes can be taken back."""
        return self.page.depth

    def trial(self):
        """For a `with` statement: the book becomes again as it was, if the rows end with an exception."""
        return Trial(self)

    def tried(self, action):
        """Call the function with the book within a trial; what it returns."""
        with self.trial() as book:
            return action(book)

    def __setitem__(self, at, worth):
        self.put(at, worth)

    def __getitem__(self, at):
        if not isinstance(at, str) or at not in self.page.houses:
            raise UnknownName(at)
        return self.page.houses[at]

    def __contains__(self, x):
        return isinstance(x, str) and x in self.page.houses

    def __iter__(self):
        raise TypeError("a book is not gone through")

    def __len__(self):
        return len(self.page.houses)

    def __bool__(self):
        return True


class Start:
    """The page of a book when the rows of a `with` statement began, and the start of those around it, or None."""

    def __init__(self, page, around):
        self.page = page
        self.around = around


class Trial:
    """What brings a book back to how it was when the rows of a `with` statement began."""

    def __init__(self, book):
        self.book = book
        # One trial may serve for several `with` statements, also for one inside of another.
        self.start = None

    def __enter__(self):
        self.start = Start(self.book.page, self.start)
        return self.book

    def __exit__(self, kind, value, trace):
        if kind is not None:
            self.book.page = self.start.page
        self.start = self.start.around


def is_name(thing):
    """Whether a house may have this name."""
    if not isinstance(thing, str) or not 1 <= len(thing) <= LONGEST_WORD:
        return False
    return all(["a" <= sign <= "z" for sign in thing])


def check_pictures(house, wish):
    """Raise an error if a picture of the wish is none of its house."""
    for picture in pictures_of(wish):
        check_picture(house, picture)


def check_wishes(houses, wish_row, touched):
    """Raise an error if too many shapes of a house come, or if one of the wishes with these indexes does not hold."""
    asked = Asked(houses)
    for at in touched:
        for name in names_of(wish_row[at]):
            asked.walks_of(name)
    for at in touched:
        shown = asked.shown_against(wish_row[at])
        if shown is not None:
            raise Broken(at, shown)
