"""Steps: what can happen next at a shape, whoever the phones are."""

from holdhouse.events import drafted, line_of, openings, row_with
from holdhouse.standings import calls_away, shape_of, with_loose


class Step:
    """An event from a shape, in which the numbered phones have their numbers and the loose ones come behind them."""

    def __init__(self, event, presser, shape_behind, row, away):
        self.event = event
        # The phone whose event it is, or None.
        self.presser = presser
        self.shape_behind = shape_behind
        # The row that does its deeds, or None.
        self.row = row
        # Whether somebody is called away.
        self.away = away
        # With fewer phones the event is another one, or it cannot be made.
        self.phones_needed = 1 + max([-1 if presser is None else presser, *event[-1]])
        # Where a web keeps the shape behind, once it has looked for it.
        self.place = None


class Steps:
    """The steps from the shapes of a house, each looked for once."""

    def __init__(self, plan):
        self.plan = plan
        # For each shape the steps with the most phones that matter, and how many phones these need.
        self.full = {}

    def full_from(self, shape):
        """The steps from a shape with the most phones that matter, and how many phones these need."""
        if shape not in self.full:
            found = all_steps(self.plan, shape)
            self.full[shape] = (found, max([0, *[step.phones_needed for step in found]]))
        return self.full[shape]

    def leading_on(self, shape, phones):
        """The steps from a shape with so many phones, without those that do nothing."""
        found, needed = self.full_from(shape)
        return found if needed <= phones else steps_with(self.plan, shape, found, phones)


def is_calm(step):
    """Whether no caller comes or goes by the step."""
    return step.event[0] not in ("call", "gone")


def all_steps(plan, shape):
    """The steps from a shape with the most phones that matter, without those that do nothing."""
    standing = with_loose(shape, plan.most_phones)
    facts = plan.facts_at(standing)
    found = []
    # All loose phones are alike, so one that presses a key stands for all of them.
    for opening in openings(plan, standing, len(shape[1]) + 1, plan.keys_with_rows):
        at = line_of(opening, standing[1])
        row = row_with(plan, standing, opening, at, facts[at])
        if row is not None or opening[0] in ("gone", "lay"):
            found.append(one_step(plan, standing, opening, row))
    return found


def steps_with(plan, shape, steps, phones):
    """The steps from a shape with so many phones; `steps` are those with the most that matter."""
    found = []
    for step in steps:
        if step.phones_needed <= phones:
            found.append(step)
        elif step.presser is None or step.presser < phones:
            # A phone that comes to a place with more phones is missing with so few.
            found.append(one_step(plan, with_loose(shape, phones), step.event[:-1], step.row))
    return found


def one_step(plan, standing, opening, row):
    """The step with this opening and row in which the least loose phone comes each time."""
    draft = drafted(plan, standing, opening, row, None)
    behind = (draft.records, draft.hearers)
    away = calls_away(standing, behind, draft.presser)
    return Step((*opening, tuple(draft.taken)), draft.presser, shape_of(behind), row, away)
