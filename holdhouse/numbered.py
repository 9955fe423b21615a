"""Numbered tables: with a number for each line of each shape that tells how near the goal is."""

from holdhouse.checks import is_integer
from holdhouse.events import openings, row_at
from holdhouse.standings import with_loose
from holdhouse.steps import is_calm
from holdhouse.tables import are_tables, lines_that_show


def are_numbered_tables(plan, thing):
    """Whether they are tables, for all numbers of phones that matter, of pairs of a shape and its numbers."""
    if not isinstance(thing, tuple) or not all([is_table_of_pairs(plan, table) for table in thing]):
        return False
    return are_tables(plan, tuple([tuple([shape for shape, numbers in table]) for table in thing]))


def is_table_of_pairs(plan, thing):
    """Whether it is a tuple of pairs of anything and of numbers."""
    return isinstance(thing, tuple) and all([is_numbered(plan, pair) for pair in thing])


def is_numbered(plan, thing):
    """Whether it is a pair of anything and of a number, or None, for each line."""
    if not isinstance(thing, tuple) or len(thing) != 2 or not isinstance(thing[1], tuple):
        return False
    numbers = thing[1]
    if len(numbers) != plan.of_house.lines:
        return False
    return all([number is None or (is_integer(number) and number >= 0) for number in numbers])


class Numbered:
    """A numbered table, for some number of phones and a goal."""

    def __init__(self, steps, table, phones, goal):
        self.steps = steps
        self.phone_count = phones
        self.numbers = {shape: numbers for shape, numbers in table}
        # For each shape the lines that show the goal.
        self.goals = {shape: lines_that_show(steps.plan, shape, goal) for shape, numbers in table}

    def holds_at(self, shape, line):
        """Whether the number of this line is right."""
        number = self.numbers[shape][line]
        if number is None:
            return True
        if number == 0:
            return line in self.goals[shape]
        return self.comes_nearer(shape, line) or (line in self.goals[shape] and self.may_rest(shape))

    def comes_nearer(self, shape, line):
        """Whether some calm step leads to the goal for this line, or to where it has a lesser number."""
        for step in self.steps.leading_on(shape, self.phone_count):
            if is_calm(step) and self.is_nearer(step.shape_behind, line, self.numbers[shape][line]):
                return True
        return False

    def is_nearer(self, shape, line, number):
        """Whether the line shows the goal, or has a number less than this one and is not at its free stand."""
        if line in self.goals[shape]:
            return True
        own = self.numbers[shape][line]
        return own is not None and own < number and not self.steps.plan.is_free(shape, line)

    def may_rest(self, shape):
        """Whether some calm event that can be made does nothing, and so leads to the shape itself."""
        plan = self.steps.plan
        standing = with_loose(shape, self.phone_count)
        pressers = min(len(shape[1]) + 1, self.phone_count)
        for opening in openings(plan, standing, pressers, plan.of_house.key_words):
            if opening[0] in ("late", "key") and row_at(plan, standing, opening) is None:
                return True
        return False


def numbers_hold(steps, table, phones, masks):
    """Whether all numbers are right, and no line that shows the picture is without one."""
    picture, goal = masks
    numbered = Numbered(steps, table, phones, goal)
    for shape, numbers in table:
        for line in lines_that_show(steps.plan, shape, picture):
            if numbers[line] is None:
                return False
        for line in range(len(numbers)):
            if not numbered.holds_at(shape, line):
                return False
    return True
