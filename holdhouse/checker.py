"""The checker: whether a certificate shows that a claim about a house is true.

Each kind of claims has a function of its own, which takes the plan of the house, the certificate, and what a line needs
to show each picture of the claim. A certificate may be any object, so its form is always looked at first.
"""

from holdhouse.checks import is_between, is_picture, stand_words
from holdhouse.errors import InvalidWeaving, WrongLine
from holdhouse.events import presser_of
from holdhouse.houses import House
from holdhouse.moments import standings_of
from holdhouse.numbered import are_numbered_tables, numbers_hold
from holdhouse.plans import Plan
from holdhouse.standings import calls_away, shape_of
from holdhouse.steps import Steps, is_calm
from holdhouse.tables import are_closed, are_tables, is_table, lines_that_show

# How many pictures a claim of each kind has.
PICTURES = {"never": 1, "kept": 0, "comes": 1, "away": 0, "can": 2, "stuck": 2}


def shows_never(plan, certificate, masks):
    """Whether these are closed tables without a shape that shows the picture."""
    if not are_tables(plan, certificate) or not are_closed(Steps(plan), certificate):
        return False
    for table in certificate:
        for shape in table:
            if lines_that_show(plan, shape, masks[0]):
                return False
    return True


def shows_kept(plan, certificate, masks):
    """Whether these are closed tables such that nobody is called away from any shape."""
    steps = Steps(plan)
    if not are_tables(plan, certificate) or not are_closed(steps, certificate):
        return False
    for at, table in enumerate(certificate):
        for shape in table:
            if any([step.away for step in steps.leading_on(shape, at + 1)]):
                return False
    return True


def shows_comes(plan, certificate, masks):
    """Whether it is a weaving that ends with the picture."""
    standings = told_standings(plan, certificate)
    return bool(standings) and bool(lines_that_show(plan, standings[-1], masks[0]))


def shows_away(plan, certificate, masks):
    """Whether it is a weaving by whose last event somebody is called away."""
    standings = told_standings(plan, certificate)
    if len(standings) < 2:
        return False
    return calls_away(standings[-2], standings[-1], presser_of(certificate[1][-1][:-1]))


def told_standings(plan, thing):
    """The standings at the beginning and behind each event of a weaving; none of them if it is none."""
    try:
        return standings_of(plan, thing)
    except InvalidWeaving:
        return []


def shows_can(plan, certificate, masks):
    """Whether these are closed tables with numbers that lead from the picture to the goal."""
    if not are_numbered_tables(plan, certificate):
        return False
    steps = Steps(plan)
    if not are_closed(steps, [[shape for shape, numbers in table] for table in certificate]):
        return False
    for at, table in enumerate(certificate):
        if not numbers_hold(steps, table, at + 1, masks):
            return False
    return True


def shows_stuck(plan, certificate, masks):
    """Whether these are a weaving, a line and a table such that the line cannot come to the goal."""
    if not isinstance(certificate, tuple) or len(certificate) != 3:
        return False
    weaving, line, table = certificate
    standings = told_standings(plan, weaving)
    if not standings or not is_between(line, 0, plan.of_house.lines - 1) or not is_table(plan, table, weaving[0]):
        return False
    if line not in lines_that_show(plan, standings[-1], masks[0]) or shape_of(standings[-1]) not in table:
        return False
    return is_dead_end(Steps(plan), table, weaving[0], line, masks[1])


def is_dead_end(steps, table, phones, line, goal):
    """Whether no calm event leads from the table to the goal, or out of it but to the free stand of the line."""
    shapes = {shape: True for shape in table}
    for shape in table:
        if line in lines_that_show(steps.plan, shape, goal):
            return False
        for step in steps.leading_on(shape, phones):
            if is_calm(step) and step.shape_behind not in shapes:
                if not steps.plan.is_free(step.shape_behind, line):
                    return False
                if line in lines_that_show(steps.plan, step.shape_behind, goal):
                    return False
    return True


SHOWN = {
    "never": shows_never,
    "kept": shows_kept,
    "comes": shows_comes,
    "away": shows_away,
    "can": shows_can,
    "stuck": shows_stuck,
}


def accepts(claim, certificate):
    """Whether this is a claim for the checker, and a certificate for it."""
    if not is_claim_form(claim):
        return False
    house = told_house(claim[1])
    if house is None or not all([is_picture(picture, stand_words(house.stands)) for picture in claim[2:]]):
        return False
    plan = Plan(house)
    shows = SHOWN[claim[0]]
    return shows(plan, certificate, [plan.picture_masks(picture) for picture in claim[2:]])


def is_claim_form(thing):
    """Whether it is a tuple of the word of a kind of claims, and as much behind it as this kind has."""
    if not isinstance(thing, tuple) or not thing or not isinstance(thing[0], str):
        return False
    return thing[0] in PICTURES and len(thing) == 2 + PICTURES[thing[0]]


def told_house(text):
    """The house with this text; None if it is none."""
    if not isinstance(text, str):
        return None
    try:
        house = House.read(text)
    except WrongLine:
        return None
    return house if str(house) == text else None
