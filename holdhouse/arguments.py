"""What raises the errors for the arguments that many functions share."""

from holdhouse.checks import is_between, is_picture, stand_words
from holdhouse.errors import InvalidNumber, InvalidPicture, NotAHouse
from holdhouse.houses import House
from holdhouse.limits import MOST_PHONES


def check_house(house):
    """Raise an error if this is no house."""
    if not isinstance(house, House):
        raise NotAHouse(house)


def check_phones(phones):
    """Raise an error if there cannot be so many phones."""
    if not is_between(phones, 1, MOST_PHONES):
        raise InvalidNumber(phones)


def check_line(house, line):
    """Raise an error if this is no line of the house."""
    if not is_between(line, 0, house.lines - 1):
        raise InvalidNumber(line)


def check_picture(house, picture):
    """Raise an error if this is no picture of the house."""
    if not is_picture(picture, stand_words(house.stands)):
        raise InvalidPicture(picture)
