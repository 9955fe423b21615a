"""What makes wrong certificates of right ones, and closed tables with shapes that never come; all of it by chance."""

import model


def paths(thing, at=()):
    """The paths to all parts of a nested tuple."""
    yield at
    if isinstance(thing, tuple):
        for index, part in enumerate(thing):
            yield from paths(part, at + (index,))


def part_at(thing, path):
    for index in path:
        thing = thing[index]
    return thing


def changed(thing, path, value):
    """The nested tuple with this value at a path of indexes."""
    if not path:
        return value
    return thing[:path[0]] + (changed(thing[path[0]], path[1:], value),) + thing[path[0] + 1:]


def other_leaf(chance, leaf, stands):
    choices = [None, 0, 1, 2, -1, True, False, 10 ** 39, "a", (), *stands]
    if isinstance(leaf, bool):
        choices = [not leaf] * 6 + [int(leaf), None]
    elif isinstance(leaf, int):
        choices += [leaf + 1, leaf - 1, None] * 4
    elif isinstance(leaf, str):
        choices += stands * 3
    return chance.choice(choices)


def other_tuple(chance, thing, whole):
    """The tuple with a part out, twice, elsewhere or put in; or a list; or another part of the whole."""
    some_part = part_at(whole, chance.choice(list(paths(whole))))
    choices = [list(thing), some_part, thing + (some_part,)]
    if thing:
        at, other = chance.randrange(len(thing)), chance.randrange(len(thing))
        choices += [thing[:at] + thing[at + 1:]] * 4 + [thing[:at] + thing[at:at + 1] + thing[at:]]
        choices += [changed(changed(thing, (at,), thing[other]), (other,), thing[at])] * 2
    return chance.choice(choices)


def bent(chance, certificate, house):
    """The certificate with something changed somewhere."""
    path = chance.choice(list(paths(certificate)))
    part = part_at(certificate, path)
    if isinstance(part, tuple):
        return changed(certificate, path, other_tuple(chance, part, certificate))
    return changed(certificate, path, other_leaf(chance, part, [stand for stand, sound in house.stands]))


def random_shape(chance, judge, phones):
    """Any shape of the house with so many numbered phones at most, whether it comes or not."""
    lines = range(judge.lines)
    stands = [chance.choice(judge.house.stands)[0] for line in lines]
    busy = [line for line in lines if stands[line] != judge.free]
    places = [(None, None)] * judge.lines
    for line in busy:
        a, b = [chance.choice([None, *range(phones)]) for place in "ab"]
        places[line] = (a, None if a == b else b)
    mates = [None] * judge.lines
    if len(busy) > 1 and chance.random() < 0.5:
        one, other = chance.sample(busy, 2)
        mates[one], mates[other] = other, one
    ears = [chance.choice([None] + [line for line in lines if phone in places[line]]) for phone in range(phones)]
    callers = [line in busy and chance.random() < 0.6 for line in lines]
    return model.shape(model.Now(tuple(stands), tuple(callers), tuple(places), tuple(mates), tuple(ears)))


def closed_table(judge, seeds, phones, few, calm=False):
    """The shapes that come from these ones, by calm events alone if wanted; None if there are more than few."""
    found = list(dict.fromkeys(seeds))
    for shape in found:
        if len(found) > few:
            return None
        for event, now, behind in judge.steps(shape, phones):
            if (not calm or event[0] in model.CALM) and model.shape(behind) not in found:
                found.append(model.shape(behind))
    return tuple(found)


def wide_tables(chance, judge, few):
    """Closed tables, most of them with some shapes that never come; None if one is too long."""
    tables = []
    for phones in range(1, 2 * judge.lines + 3):
        many = [chance.randint(0, min(phones, 2 * judge.lines)) for turn in range(chance.randint(0, 2))]
        seeds = [model.shape(model.start(judge.house, phones))] + [random_shape(chance, judge, one) for one in many]
        tables.append(closed_table(judge, seeds, phones, few))
    return None if None in tables else tuple(tables)


def numbered(chance, judge, tables, goal):
    """These tables with right numbers, and here and there a wrong one."""
    found = []
    for at, table in enumerate(tables):
        numbers = {}
        for line in range(judge.lines):
            near = {shape: 0 for shape in table if line in judge.shown(shape, goal)}
            for turn in range(1, len(table)):
                near.update({shape: turn for shape in table if shape not in near and any(
                    leads_on(judge, event, behind, line, goal, near) for event, now, behind in judge.steps(shape, at + 1))})
            numbers[line] = near
        rows = [(shape, tuple(numbers[line].get(shape) for line in range(judge.lines))) for shape in table]
        if chance.random() < 0.2:
            which, line = chance.randrange(len(rows)), chance.randrange(judge.lines)
            rows = list(changed(tuple(rows), (which, 1, line), chance.choice((None, 0, 1, 2, 3, 10 ** 39))))
        found.append(tuple(rows))
    return tuple(found)


def leads_on(judge, event, behind, line, goal, near):
    if event[0] not in model.CALM:
        return False
    return model.shows(behind, line, goal) or (behind.stands[line] != judge.free and model.shape(behind) in near)
