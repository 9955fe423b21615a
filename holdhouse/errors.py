"""The errors that the package raises.

Each class sets its own attributes, because each one derives from its base class directly.
"""


class WrongValue(ValueError):
    """An argument is not what it must be."""


class WrongState(LookupError):
    """A book has not what is asked for, or cannot give it up."""


class NoAnswer(ArithmeticError):
    """A question or a change cannot be granted."""


class InvalidNumber(WrongValue):
    """No integer, or none in the limits."""

    def __init__(self, given):
        self.given = given


class InvalidText(WrongValue):
    """No string where a text must be."""

    def __init__(self, given):
        self.given = given


class InvalidName(WrongValue):
    """No name for a house in a book."""

    def __init__(self, given):
        self.given = given


class InvalidWish(WrongValue):
    """No wish of a book."""

    def __init__(self, given):
        self.given = given


class InvalidIndex(WrongValue):
    """No index of what is counted there."""

    def __init__(self, given):
        self.given = given


class InvalidPicture(WrongValue):
    """No picture of the house."""

    def __init__(self, given):
        self.given = given


class InvalidEvent(WrongValue):
    """An event that cannot be made."""

    def __init__(self, given):
        self.given = given


class InvalidHearing(WrongValue):
    """No tuple of strings where a hearing must be."""

    def __init__(self, given):
        self.given = given


class NotAHouse(WrongValue):
    """No house where one must be."""

    def __init__(self, given):
        self.given = given


class InvalidStands(WrongValue):
    """No stands of a house; the index of the first wrong one, or None."""

    def __init__(self, index):
        self.index = index


class InvalidKeys(WrongValue):
    """No keys of a house; the index of the first wrong one, or None."""

    def __init__(self, index):
        self.index = index


class InvalidRows(WrongValue):
    """No rows of a house; the index of the first wrong one, or None."""

    def __init__(self, index):
        self.index = index


class WrongLine(WrongValue):
    """No text of a house; the index of the first wrong line."""

    def __init__(self, index):
        self.index = index


class InvalidWeaving(WrongValue):
    """No weaving; the index of the first wrong event, or None."""

    def __init__(self, index):
        self.index = index


class UnknownName(WrongState):
    """No name of the book."""

    def __init__(self, given):
        self.given = given


class InUse(WrongState):
    """A wish needs the house; the index of the first such wish."""

    def __init__(self, index):
        self.index = index


class NothingToUndo(WrongState):
    """No change is left to take back."""

    def __init__(self):
        pass


class TooMany(NoAnswer):
    """More shapes come than the most that are looked at."""

    def __init__(self, most):
        self.most = most


class Broken(NoAnswer):
    """A wish does not hold; its index, and what shows it."""

    def __init__(self, index, shown):
        self.index = index
        self.shown = shown
