"""Plans: what a house does, taken apart so that events need not read its rows."""

from holdhouse.checks import row_parts
from holdhouse.drafts import deed_parts
from holdhouse.facts import fact_masks, facts_of_stands, heard_word, holds, line_facts
from holdhouse.standings import STAND, beginning


class Plan:
    """A house, with its rows taken apart."""

    def __init__(self, house):
        self.of_house = house
        self.free_stand = house.stands[0][0]
        self.sounds = {stand: sound for stand, sound in house.stands}
        self.stand_facts = facts_of_stands(house.stands)
        self.rows_at = rows_at_occasions(house.rows, self.stand_facts)
        self.keys_with_rows = [key for key in house.key_words if "key " + key in self.rows_at]
        # With so many phones all comes that comes with more of them, and without names nothing else.
        self.most_phones = 2 * house.lines + 2

    def row_for(self, occasion, facts):
        """The first row for this occasion all of whose conditions hold, as (index, masks, deeds), or None."""
        for row in self.rows_at.get(occasion, ()):
            if holds(row[1], facts):
                return row
        return None

    def first_standing(self, phones):
        """The standing in the beginning, with so many phones."""
        return beginning(self.free_stand, self.of_house.lines, phones)

    def is_free(self, standing, at):
        """Whether the line is at its free stand."""
        return standing[0][at][STAND] == self.free_stand

    def facts_at(self, standing):
        """The facts of each line."""
        return [line_facts(standing, at, self.stand_facts) for at in range(len(standing[0]))]

    def heard_at(self, standing, at):
        """What the caller of the line hears; None if there is no caller."""
        return heard_word(line_facts(standing, at, self.stand_facts), self.sounds[standing[0][at][STAND]])

    def picture_masks(self, picture):
        """The facts that a line must have to show the picture, and those that it must not have."""
        return fact_masks(picture.split(" and "), self.stand_facts)


def rows_at_occasions(rows, stand_facts):
    """For each occasion its rows in their order, as (index, masks, deeds)."""
    found = {}
    for index, row in enumerate(rows):
        occasion, conditions, deeds = row_parts(row)
        masks = fact_masks(conditions, stand_facts)
        found.setdefault(occasion, []).append((index, masks, tuple([deed_parts(text) for text in deeds])))
    return found
