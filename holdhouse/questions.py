"""Questions about a house, for all its weavings and all numbers of phones."""

from holdhouse.arguments import check_house, check_phones, check_picture
from holdhouse.plans import picture_conditions
from holdhouse.standings import STAND, line_shows
from holdhouse.walks import all_walks, weaving_to


def shapes(house, phones):
    """The tuple of all shapes that come with so many phones."""
    check_house(house)
    check_phones(phones)
    walks = all_walks(house)
    # With more phones than those of the last walk, the same shapes come.
    return tuple(walks[min(phones, len(walks)) - 1].found)


def first(house, picture):
    """A weaving with the fewest phones, and then events, that ends with the picture; None if it never comes."""
    check_house(house)
    check_picture(house, picture)
    for walk in all_walks(house):
        for at, shown in enumerate(lines_shown(walk, picture)):
            if shown:
                return weaving_to(house, walk, at)
    return None


def stuck(house, picture, goal):
    """A stuck weaving with the fewest phones, and then events; None if there is none."""
    check_house(house)
    check_picture(house, picture)
    check_picture(house, goal)
    free_stand = house.stands[0][0]
    for walk in all_walks(house):
        at = first_stuck(walk, lines_shown(walk, picture), lines_shown(walk, goal), free_stand)
        if at is not None:
            return weaving_to(house, walk, at)
    return None


def called_away(house):
    """A weaving with the fewest phones, and then events, by the last of which somebody is called away, or None."""
    check_house(house)
    for walk in all_walks(house):
        for at, links in enumerate(walk.links):
            for step, behind in links:
                if step.away:
                    return weaving_to(house, walk, at, (step.event,))
    return None


def most(house, picture):
    """The greatest number of lines that show the picture at one moment."""
    check_house(house)
    check_picture(house, picture)
    return max([len(shown) for walk in all_walks(house) for shown in lines_shown(walk, picture)])


def unused(house):
    """The ascending tuple of the indexes of the rows that do their deeds in no weaving."""
    check_house(house)
    done = {step.done_row: True for walk in all_walks(house) for links in walk.links for step, behind in links}
    return tuple([row for row in range(len(house)) if row not in done])


def lines_shown(walk, picture):
    """For each shape of the walk the list of the lines that show the picture."""
    conditions = picture_conditions(picture)
    return [[line for line in range(len(shape[0])) if line_shows(shape, line, conditions)] for shape in walk.found]


def first_stuck(walk, shown, goals, free_stand):
    """The number of the first shape with a line that shows the picture and cannot come to the goal; or None.

    `shown` and `goals` have for each shape the lines that show the picture, and the goal.
    """
    ahead = calm_ahead(walk)
    can_come = [numbers_that_can(walk, ahead, goals, line, free_stand) for line in range(len(walk.found[0][0]))]
    for at, lines in enumerate(shown):
        for line in lines:
            if at not in can_come[line]:
                return at
    return None


def calm_ahead(walk):
    """For each shape the numbers of the shapes from which a calm event leads to it."""
    ahead = [[] for shape in walk.found]
    for at, links in enumerate(walk.links):
        for step, behind in links:
            if is_calm(step.event):
                ahead[behind].append(at)
    return ahead


def is_calm(event):
    """Whether no caller comes or goes by the event."""
    return event[0] not in ("call", "gone")


def numbers_that_can(walk, ahead, goals, line, free_stand):
    """A dict with the numbers of the shapes from which the goal can come for the line; all its values are True."""
    waiting = [at for at, lines in enumerate(goals) if line in lines]
    found = {at: True for at in waiting}
    while waiting:
        at = waiting.pop()
        # A weaving that goes through the free stand of the line ends there, so it may only end with the goal.
        if line in goals[at] or walk.found[at][0][line][STAND] != free_stand:
            for other in ahead[at]:
                if other not in found:
                    found[other] = True
                    waiting.append(other)
    return found
