"""Hearings: what callers can hear in a house, and what they can hear in one house alone."""

from holdhouse.arguments import check_house
from holdhouse.errors import InvalidHearing
from holdhouse.partings import parting_words
from holdhouse.stories import Stories
from holdhouse.walks import all_walks


def hears(house, words):
    """Whether this is a hearing of the house."""
    check_house(house)
    if not isinstance(words, tuple) or not all([isinstance(word, str) for word in words]):
        raise InvalidHearing(words)
    stories = Stories(all_walks(house))
    if not words:
        return False
    moves = stories.starts
    for word in words[:-1]:
        if word not in moves:
            return False
        moves = stories.behind(moves[word])
    return words[-1] in moves


def parting_hearing(one, other):
    """The shortest hearing of the one house that is none of the other, of several the least one; or None."""
    check_house(one)
    check_house(other)
    walks = all_walks(one)
    return parting_words(Stories(walks), Stories(all_walks(other)))
