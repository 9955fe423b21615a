"""Plans: what a house does, taken apart so that events need not read its rows."""

from holdhouse.checks import condition_parts, row_parts
from holdhouse.standings import STAND, beginning, holds


class Plan:
    """A house, with its rows taken apart."""

    def __init__(self, house):
        self.of_house = house
        self.free_stand = house.stands[0][0]
        self.sounds = {stand: sound for stand, sound in house.stands}
        self.row_parts_at = rows_at_occasions(house.rows)

    def row_for(self, occasion, facts):
        """The first row for this occasion all of whose conditions hold, as (index, conditions, deeds), or None."""
        for row in self.row_parts_at.get(occasion, ()):
            if holds(row[1], facts):
                return row
        return None

    def first_standing(self, phones):
        """The standing in the beginning, with so many phones."""
        return beginning(self.free_stand, self.of_house.lines, phones)

    def is_free(self, standing, at):
        """Whether the line is at its free stand."""
        return standing[0][at][STAND] == self.free_stand


def rows_at_occasions(rows):
    """For each occasion its rows in their order, as (index, conditions, deeds)."""
    parts_at = {}
    for index, row in enumerate(rows):
        occasion, conditions, deeds = row_parts(row)
        wanted = tuple([condition_parts(text) for text in conditions])
        parts_at.setdefault(occasion, []).append((index, wanted, tuple([deed_parts(text) for text in deeds])))
    return parts_at


def picture_conditions(picture):
    """The conditions of a picture, as pairs of a condition without `not`, and whether it must hold."""
    return tuple([condition_parts(text) for text in picture.split(" and ")])


def deed_parts(text):
    """The first word of a deed, and what stands behind it."""
    word, blank, rest = text.partition(" ")
    return word, rest
