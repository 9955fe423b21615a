"""Moments of a house: what stands, what is heard, and what can happen next."""

from holdhouse.arguments import check_house, check_line, check_phones, check_picture
from holdhouse.checks import is_between
from holdhouse.errors import InvalidEvent, InvalidWeaving
from holdhouse.events import all_openings, events_with, standing_behind
from holdhouse.facts import holds, line_facts
from holdhouse.limits import MOST_PHONES
from holdhouse.plans import Plan
from holdhouse.standings import CALLER, MATE, PLACE_A, PLACE_B, STAND, shape_of

LAST_WORDS = ("gone", "over")


class Moment:
    """A moment of a house with some phones."""

    def __init__(self, plan, standing):
        self.plan = plan
        self.standing = standing

    @property
    def house(self):
        """The house."""
        return self.plan.of_house

    @property
    def phones(self):
        """The number of phones."""
        return len(self.standing[1])

    @property
    def stands(self):
        """The stand of each line."""
        return tuple([line[STAND] for line in self.standing[0]])

    @property
    def callers(self):
        """For each line whether it has a caller."""
        return tuple([line[CALLER] for line in self.standing[0]])

    @property
    def places(self):
        """For each line the pair of what is at a and at b: a phone or None."""
        return tuple([(line[PLACE_A], line[PLACE_B]) for line in self.standing[0]])

    @property
    def mates(self):
        """For each line its mate, or None."""
        return tuple([line[MATE] for line in self.standing[0]])

    @property
    def ears(self):
        """For each phone the line that it hears, or None."""
        return self.standing[1]

    @property
    def shape(self):
        """The shape: all but the names of the phones."""
        return shape_of(self.standing)

    def heard(self, line):
        """What the caller of the line hears; None if there is no caller."""
        check_line(self.plan.of_house, line)
        return self.plan.heard_at(self.standing, line)

    def shows(self, line, picture):
        """Whether the line shows the picture."""
        check_line(self.plan.of_house, line)
        check_picture(self.plan.of_house, picture)
        return holds(self.plan.picture_masks(picture), line_facts(self.standing, line, self.plan.stand_facts))

    def events(self):
        """The ascending tuple of all events that can be made."""
        found = []
        for opening in all_openings(self.plan, self.standing):
            found.extend(events_with(self.plan, self.standing, opening))
        return tuple(sorted(found))

    def after(self, event):
        """The moment behind an event."""
        standing = standing_behind(self.plan, self.standing, event)
        if standing is None:
            raise InvalidEvent(event)
        return Moment(self.plan, standing)

    def __eq__(self, other):
        return (isinstance(other, Moment) and self.plan.of_house == other.plan.of_house
                and self.standing == other.standing)

    def __repr__(self):
        return f"Moment({len(self.standing[0])} lines, {len(self.standing[1])} phones)"


def begin(house, phones=1):
    """The moment at the beginning, with so many phones."""
    check_house(house)
    check_phones(phones)
    plan = Plan(house)
    return Moment(plan, plan.first_standing(phones))


def play(house, weaving):
    """The moment at the end of a weaving."""
    check_house(house)
    plan = Plan(house)
    return Moment(plan, standings_of(plan, weaving)[-1])


def hearing(house, weaving, line):
    """The hearing of the last call at the line that was not turned away; () if there was none."""
    check_house(house)
    plan = Plan(house)
    standings = standings_of(plan, weaving)
    check_line(house, line)
    words = ()
    for event, standing in zip(weaving[1], standings[1:]):
        words = words_behind(words, event, plan.heard_at(standing, line), line)
    return words


def standings_of(plan, weaving):
    """The standings at the beginning and behind each event of a weaving."""
    check_weaving(weaving)
    phones, events = weaving
    standings = [plan.first_standing(phones)]
    for at, event in enumerate(events):
        standing = standing_behind(plan, standings[-1], event)
        if standing is None:
            raise InvalidWeaving(at)
        standings.append(standing)
    return standings


def check_weaving(weaving):
    """Raise an error if this is no pair of a number of phones and a tuple."""
    if not isinstance(weaving, tuple) or len(weaving) != 2:
        raise InvalidWeaving(None)
    if not is_between(weaving[0], 1, MOST_PHONES) or not isinstance(weaving[1], tuple):
        raise InvalidWeaving(None)


def words_behind(words, event, word, line):
    """The hearing of the line behind an event; `word` is what its caller then hears, None without a caller."""
    if event[:2] == ("call", line):
        # A call that is turned away is no call of a hearing, so the last hearing stays.
        return words if word is None else (word,)
    if not words or words[-1] in LAST_WORDS:
        return words
    if event[:2] == ("gone", line):
        return (*words, "gone")
    if word is None:
        return (*words, "over")
    return words if word == words[-1] else (*words, word)
