"""Questions about a house, for all its weavings and all numbers of phones."""

from holdhouse.answers import away_weaving, first_weaving, lines_showing, stuck_weaving
from holdhouse.arguments import check_house, check_phones, check_picture
from holdhouse.walks import all_walks


def shapes(house, phones):
    """The tuple of all shapes that come with so many phones."""
    check_house(house)
    check_phones(phones)
    walks = all_walks(house)
    # With more phones than those of the last walk, the same shapes come.
    walk = walks[min(phones, len(walks)) - 1]
    return tuple([shape for number in walk.found for shape in walk.web.kin[number]])


def first(house, picture):
    """A weaving with the fewest phones, and then events, that ends with the picture; None if it never comes."""
    check_house(house)
    check_picture(house, picture)
    return first_weaving(all_walks(house), picture)


def stuck(house, picture, goal):
    """A stuck weaving with the fewest phones, and then events; None if there is none."""
    check_house(house)
    check_picture(house, picture)
    check_picture(house, goal)
    return stuck_weaving(all_walks(house), picture, goal)


def called_away(house):
    """A weaving with the fewest phones, and then events, by the last of which somebody is called away, or None."""
    check_house(house)
    return away_weaving(all_walks(house))


def most(house, picture):
    """The greatest number of lines that show the picture at one moment."""
    check_house(house)
    check_picture(house, picture)
    walks = all_walks(house)
    shown = lines_showing(walks[0].web, picture)
    return max([len(shown[number]) for walk in walks for number in walk.found])


def unused(house):
    """The ascending tuple of the indexes of the rows that do their deeds in no weaving."""
    check_house(house)
    done = {}
    for walk in all_walks(house):
        for number in walk.found:
            for step in walk.steps[number]:
                if step.row is not None:
                    done[step.row[0]] = True
    return tuple([row for row in range(len(house)) if row not in done])
