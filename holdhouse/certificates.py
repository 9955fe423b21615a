"""Certificates: claims about a house, each with what shows the checker that it is true."""

from holdhouse.answers import away_weaving, distances, first_weaving, stuck_place
from holdhouse.arguments import check_house, check_picture
from holdhouse.moments import standings_of
from holdhouse.standings import shape_of
from holdhouse.steps import is_calm
from holdhouse.walks import all_walks, weaving_to


def certify_never(house, picture):
    """The claim that the picture never comes, or that it comes, and the certificate for it."""
    check_house(house)
    check_picture(house, picture)
    walks = all_walks(house)
    weaving = first_weaving(walks, picture)
    if weaving is not None:
        return ("comes", str(house), picture), weaving
    return ("never", str(house), picture), tables_of(walks)


def certify_kept(house):
    """The claim that nobody is ever called away, or that somebody is, and the certificate for it."""
    check_house(house)
    walks = all_walks(house)
    weaving = away_weaving(walks)
    if weaving is not None:
        return ("away", str(house)), weaving
    return ("kept", str(house)), tables_of(walks)


def certify_can(house, picture, goal):
    """The claim that no weaving is stuck, or that one is, and the certificate for it."""
    check_house(house)
    check_picture(house, picture)
    check_picture(house, goal)
    walks = all_walks(house)
    place = stuck_place(walks, picture, goal)
    if place is not None:
        return ("stuck", str(house), picture, goal), dead_end(place)
    tables = [numbered_table(walk, goal) for walk in walks]
    return ("can", str(house), picture, goal), for_all_phones(walks, tables)


def tables_of(walks):
    """For each number of phones that matters the tuple of all shapes that come."""
    tables = [tuple([shape for number in walk.found for shape in walk.web.kin[number]]) for walk in walks]
    return for_all_phones(walks, tables)


def for_all_phones(walks, tables):
    """The tables of the walks, and the last one again for each greater number of phones that matters."""
    many = walks[0].web.plan.most_phones
    return tuple([*tables, *[tables[-1]] * (many - len(tables))])


def numbered_table(walk, goal):
    """The pairs of all shapes that come, and of the numbers that tell how far the goal is for each line."""
    far = distances(walk, goal)
    found = []
    for number in walk.found:
        for shape in walk.web.kin[number]:
            here, order = walk.web.place_of(shape)
            found.append((shape, tuple([far.get((number, line)) for line in order])))
    return tuple(found)


def dead_end(place):
    """A weaving, a line and a table that show that the goal cannot come there for this line."""
    walk, number, line = place
    weaving = weaving_to(walk, number)
    shape = shape_of(standings_of(walk.web.plan, weaving)[-1])
    here, order = walk.web.place_of(shape)
    at = order.index(line)
    return weaving, at, calm_table(walk, shape, at)


def calm_table(walk, shape, line):
    """The shapes that calm events come to, without going through the free stand of the line."""
    plan = walk.web.plan
    found = {shape: True}
    waiting = [shape]
    while waiting:
        latest = waiting.pop()
        for step in walk.web.steps.leading_on(latest, walk.phone_count):
            behind = step.shape_behind
            if is_calm(step) and behind not in found and not plan.is_free(behind, line):
                found[behind] = True
                waiting.append(behind)
    return tuple(found)
