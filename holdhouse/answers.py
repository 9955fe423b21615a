"""Answers to questions about a house, from its walks."""

from holdhouse.facts import holds
from holdhouse.steps import is_calm
from holdhouse.walks import weaving_to


def lines_showing(web, picture):
    """For each shape of the web, by its number, the list of the lines that show the picture."""
    masks = web.plan.picture_masks(picture)
    return [[line for line, facts in enumerate(of_lines) if holds(masks, facts)] for of_lines in web.facts]


def first_weaving(walks, picture):
    """A weaving with the fewest phones, and then events, that ends with the picture; None if it never comes."""
    shown = lines_showing(walks[0].web, picture)
    for walk in walks:
        for number in walk.found:
            if shown[number]:
                return weaving_to(walk, number)
    return None


def away_weaving(walks):
    """A weaving with the fewest phones, and then events, by the last of which somebody is called away, or None."""
    for walk in walks:
        for number in walk.found:
            for step in walk.steps[number]:
                if step.away:
                    return weaving_to(walk, number, (step.event,))
    return None


def stuck_place(walks, picture, goal):
    """The first walk, shape and line such that the line shows the picture, and the goal cannot come; or None."""
    shown = lines_showing(walks[0].web, picture)
    for walk in walks:
        far = distances(walk, goal)
        for number in walk.found:
            for line in shown[number]:
                if (number, line) not in far:
                    return walk, number, line
    return None


def stuck_weaving(walks, picture, goal):
    """A stuck weaving with the fewest phones, and then events; None if there is none."""
    place = stuck_place(walks, picture, goal)
    if place is None:
        return None
    walk, number, line = place
    return weaving_to(walk, number)


def distances(walk, goal):
    """For each pair (number, line) from which the goal can come, how many calm events that takes."""
    web = walk.web
    free = web.plan.stand_facts[web.plan.free_stand]
    ahead = calm_ahead(walk)
    shown = lines_showing(web, goal)
    found = [(number, line) for number in walk.found for line in shown[number]]
    far = {pair: 0 for pair in found}
    at = 0
    while at < len(found):
        number, line = found[at]
        # A weaving that goes through the free stand of the line ends there, so it may only end with the goal.
        if far[number, line] == 0 or not web.facts[number][line] & free:
            for other, order in ahead[number]:
                pair = (other, order.index(line))
                if pair not in far:
                    far[pair] = far[number, line] + 1
                    found.append(pair)
        at += 1
    return far


def calm_ahead(walk):
    """For each number the pairs of one from which a calm step leads to it, and the order of the lines then."""
    ahead = {number: [] for number in walk.found}
    for number in walk.found:
        for step in walk.steps[number]:
            if is_calm(step):
                behind, order = step.place
                ahead[behind].append((number, order))
    return ahead
