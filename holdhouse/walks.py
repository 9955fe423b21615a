"""Walks: all shapes of a house that come with some number of phones, and the events between them."""

from holdhouse.errors import TooMany
from holdhouse.events import standing_behind
from holdhouse.houses import House
from holdhouse.limits import MOST_SHAPES
from holdhouse.plans import Plan
from holdhouse.standings import loose_phones, placed_phones, shape_of
from holdhouse.webs import Web


class Walk:
    """The shapes that come with so many phones, by their numbers in a web, those that take fewer events first."""

    def __init__(self, web, phones):
        self.web = web
        self.phone_count = phones
        self.found = []
        # For each number but the first, the one ahead of it and the event between them.
        self.origins = {}
        # For each number the steps from it.
        self.steps = {}
        # How many shapes come, the kin of those that are found included.
        self.many = 0
        # Whether the same shapes and steps come with each greater number of phones.
        self.settled = True

    def come_to(self, number, origin):
        """Note that a shape comes which was not noted before."""
        self.origins[number] = origin
        self.found.append(number)
        self.many += len(self.web.kin[number])
        if self.many > MOST_SHAPES:
            raise TooMany(MOST_SHAPES)

    def go_on(self, number):
        """Take all steps from a shape."""
        steps = self.web.steps_from(number, self.phone_count)
        self.steps[number] = steps
        if self.web.enough_phones(number) > self.phone_count:
            self.settled = False
        for step in steps:
            if step.place[0] not in self.origins:
                self.come_to(step.place[0], (number, step.event))


def walk_with(web, phones):
    """The walk for so many phones."""
    walk = Walk(web, phones)
    start, order = web.place_of(shape_of(web.plan.first_standing(phones)))
    walk.come_to(start, None)
    at = 0
    while at < len(walk.found):
        walk.go_on(walk.found[at])
        at += 1
    return walk


def check_fewer_lines(house):
    """Raise an error if the shapes of fewer lines alone show that too many come.

    Other lines keep two phones each at most, so there are always enough left to bring one line, or two, to whatever
    comes in a house with no more lines than these, while the others stay as they are.
    """
    # With two lines it is hardly ever of use.
    if house.lines > 2:
        alone = many_with_lines(house, 1)
        if alone ** 3 > MOST_SHAPES or alone * many_with_lines(house, 2) > MOST_SHAPES:
            raise TooMany(MOST_SHAPES)


def many_with_lines(house, lines):
    """How many shapes come with many phones in the house with so many lines."""
    plan = Plan(House(lines, house.stands, house.key_words, house.rows))
    return walk_with(Web(plan), plan.most_phones).many


def all_walks(house):
    """The walks for 1, 2, .. phones, up to the number with which the same comes as with all greater ones."""
    check_fewer_lines(house)
    web = Web(Plan(house))
    # Most shapes come with the most phones, so if too many come, this tells it soonest.
    last = walk_with(web, web.plan.most_phones)
    walks = []
    while len(walks) + 1 < last.phone_count:
        walks.append(walk_with(web, len(walks) + 1))
        if walks[-1].settled:
            return walks
    return [*walks, last]


def weaving_to(walk, number, last=()):
    """A weaving that leads to a shape, or one of its kin, by the fewest events, with these last ones behind them."""
    events = []
    while walk.origins[number] is not None:
        number, event = walk.origins[number]
        events.append(event)
    return walk.phone_count, told_events(walk.web, walk.phone_count, [*events[::-1], *last])


def told_events(web, phones, events):
    """These events of shapes, one behind the other, in the names that lines and phones have from the beginning."""
    standing = web.plan.first_standing(phones)
    told = []
    for event in events:
        told.append(event_at(web, standing, event))
        standing = standing_behind(web.plan, standing, told[-1])
    return tuple(told)


def event_at(web, standing, event):
    """The event at a standing that is this one at the shape that stands for the shape of the standing."""
    number, order = web.place_of(shape_of(standing))
    lines_told = [order.index(line) for line in range(len(order))]
    lines, ears = standing
    names = [*placed_phones([lines[line] for line in lines_told]), *loose_phones(lines, ears)]
    return renamed(event, lines_told, names)


def renamed(event, lines, phones):
    """The event with these lines and phones in the place of their numbers."""
    picks = tuple([phones[phone] for phone in event[-1]])
    if event[0] == "key":
        return "key", event[1], phones[event[2]], lines[event[3]], picks
    if event[0] == "lay":
        return "lay", phones[event[1]], picks
    return event[0], lines[event[1]], picks
