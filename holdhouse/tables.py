"""Tables: tuples of shapes from which nothing leads to other shapes."""

from holdhouse.checks import is_between
from holdhouse.facts import holds
from holdhouse.standings import MATE, PLACE_A, PLACE_B, placed_phones, shape_of


def is_shape(plan, thing):
    """Whether it is a shape of the house, whether it ever comes or not."""
    if not isinstance(thing, tuple) or len(thing) != 2:
        return False
    lines, ears = thing
    if not isinstance(lines, tuple) or len(lines) != plan.of_house.lines or not isinstance(ears, tuple):
        return False
    if not all([is_record(plan, record, len(ears)) for record in lines]):
        return False
    # The phones have their numbers in the order in which they come first.
    if placed_phones(lines) != list(range(len(ears))):
        return False
    return (all([are_mates(lines, at, record[MATE]) for at, record in enumerate(lines)])
            and all([is_ear(lines, phone, ear) for phone, ear in enumerate(ears)]))


def is_record(plan, thing, phones):
    """Whether a line may stand so, if so many phones are numbered."""
    if not isinstance(thing, tuple) or len(thing) != 5:
        return False
    stand, caller, a, b, mate = thing
    if not isinstance(stand, str) or stand not in plan.stand_facts or not isinstance(caller, bool):
        return False
    if not is_number_or_none(a, phones) or not is_number_or_none(b, phones):
        return False
    if not is_number_or_none(mate, plan.of_house.lines) or (a is not None and a == b):
        return False
    # A line at its free stand is cleared.
    return stand != plan.free_stand or thing == (stand, False, None, None, None)


def is_number_or_none(thing, many):
    """Whether it is None, or counts one of so many."""
    return thing is None or is_between(thing, 0, many - 1)


def are_mates(lines, at, mate):
    """Whether the mate of the line is another line, whose mate the line is, or None."""
    return mate is None or (mate != at and lines[mate][MATE] == at)


def is_ear(lines, phone, ear):
    """Whether the phone may hear this line, or none."""
    if ear is None:
        return True
    return is_between(ear, 0, len(lines) - 1) and phone in (lines[ear][PLACE_A], lines[ear][PLACE_B])


def is_table(plan, thing, phones):
    """Whether it is a tuple of shapes with so many numbered phones at most, each once."""
    if not isinstance(thing, tuple):
        return False
    seen = {}
    for shape in thing:
        if not is_shape(plan, shape) or len(shape[1]) > phones or shape in seen:
            return False
        seen[shape] = True
    return True


def are_tables(plan, thing):
    """Whether they are tables for all numbers of phones that matter."""
    if not isinstance(thing, tuple) or len(thing) != plan.most_phones:
        return False
    return all([is_table(plan, table, at + 1) for at, table in enumerate(thing)])


def is_closed(steps, table, phones):
    """Whether the beginning is in the table, and whatever comes behind its shapes with so many phones is, too."""
    shapes = {shape: True for shape in table}
    if shape_of(steps.plan.first_standing(phones)) not in shapes:
        return False
    for shape in table:
        for step in steps.leading_on(shape, phones):
            if step.shape_behind not in shapes:
                return False
    return True


def are_closed(steps, tables):
    """Whether all these tables, for 1, 2, .. phones, are closed."""
    for at, table in enumerate(tables):
        if not is_closed(steps, table, at + 1):
            return False
    return True


def lines_that_show(plan, shape, masks):
    """The lines of the shape that show the picture with these masks."""
    return [line for line, facts in enumerate(plan.facts_at(shape)) if holds(masks, facts)]
