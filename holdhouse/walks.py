"""Walks: all shapes of a house that come with some number of phones, and the events between them."""

from holdhouse.drafts import frozen
from holdhouse.errors import TooMany
from holdhouse.events import drafted, openings, presser_of, standing_behind
from holdhouse.limits import MOST_SHAPES
from holdhouse.plans import Plan
from holdhouse.standings import calls_away, loose_phones, placed_phones, shape_of, with_loose


class Step:
    """An event from a shape, in which the numbered phones have their numbers and the loose ones come behind them."""

    def __init__(self, event, shape_behind, done_row, away):
        self.event = event
        self.shape_behind = shape_behind
        self.done_row = done_row
        self.away = away
        presser = presser_of(event)
        # With fewer phones the event is another one, or it cannot be made.
        self.phones_needed = 1 + max([-1 if presser is None else presser, *event[-1]])


class Steps:
    """The steps from the shapes of a house, each looked for once, with the most phones that matter."""

    def __init__(self, plan):
        self.plan = plan
        self.most_phones = 2 * plan.of_house.lines + 2
        self.known = {}

    def leading_on(self, shape, phones):
        """The steps from a shape with so many phones, without those that do nothing."""
        if shape not in self.known:
            self.known[shape] = all_steps(self.plan, shape, self.most_phones)
        found = []
        for step in self.known[shape]:
            presser = presser_of(step.event)
            if step.phones_needed <= phones:
                found.append(step)
            elif presser is None or presser < phones:
                # A phone that comes to a place with more phones is missing with so few.
                found.append(one_step(self.plan, with_loose(shape, phones), step.event[:-1]))
        return found


class Walk:
    """The shapes that come with so many phones, those that take fewer events first."""

    def __init__(self, phones, shape):
        self.phone_count = phones
        self.found = [shape]
        self.numbers = {shape: 0}
        # For each shape but the first, the number of one ahead of it and the event between them.
        self.origins = [None]
        # For each shape the steps from it, each with the number of the shape behind it.
        self.links = []

    def number_behind(self, at, step):
        """The number of the shape behind a step from the shape with this number."""
        shape = step.shape_behind
        if shape not in self.numbers:
            self.numbers[shape] = len(self.found)
            self.found.append(shape)
            self.origins.append((at, step.event))
        return self.numbers[shape]


def all_steps(plan, shape, phones):
    """The steps from a shape with so many phones (more than are numbered), without those that do nothing."""
    standing = with_loose(shape, phones)
    found = []
    # All loose phones are alike, so one that presses a key stands for all of them.
    for opening in openings(plan, standing, len(shape[1]) + 1):
        step = one_step(plan, standing, opening)
        if step.done_row is not None or step.shape_behind != shape:
            found.append(step)
    return found


def one_step(plan, standing, opening):
    """The step with this opening in which the least loose phone comes each time."""
    draft = drafted(plan, standing, opening, None)
    behind = frozen(draft)
    away = calls_away(standing, behind, draft.presser)
    return Step((*opening, tuple(draft.taken)), shape_of(behind), draft.done_row, away)


def all_walks(house):
    """The walks for all numbers of phones that matter, from 1 on."""
    steps = Steps(Plan(house))
    return [walk_with(steps, phones) for phones in range(1, steps.most_phones + 1)]


def walk_with(steps, phones):
    """The walk for so many phones."""
    walk = Walk(phones, shape_of(steps.plan.first_standing(phones)))
    at = 0
    while at < len(walk.found):
        shape = walk.found[at]
        links = []
        for step in steps.leading_on(shape, phones):
            links.append((step, walk.number_behind(at, step)))
        walk.links.append(links)
        if len(walk.found) > MOST_SHAPES:
            raise TooMany(MOST_SHAPES)
        at += 1
    return walk


def weaving_to(house, walk, at, last=()):
    """A weaving that leads to the shape with this number by the fewest events, with these last ones behind them."""
    events = []
    while walk.origins[at] is not None:
        at, event = walk.origins[at]
        events.append(event)
    return walk.phone_count, told_events(Plan(house), walk.phone_count, [*events[::-1], *last])


def told_events(plan, phones, events):
    """These events of shapes, one behind the other, in the names that the phones have from the beginning."""
    standing = plan.first_standing(phones)
    told = []
    for event in events:
        told.append(renamed(event, phone_names(standing)))
        standing = standing_behind(plan, standing, told[-1])
    return tuple(told)


def phone_names(standing):
    """The phones in the order in which an event of the shape numbers them."""
    lines, ears = standing
    return [*placed_phones(lines), *loose_phones(lines, ears)]


def renamed(event, names):
    """The event with these names of phones in the place of their numbers."""
    picks = tuple([names[phone] for phone in event[-1]])
    if event[0] == "key":
        return "key", event[1], names[event[2]], event[3], picks
    if event[0] == "lay":
        return "lay", names[event[1]], picks
    return event[0], event[1], picks
