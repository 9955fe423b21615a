"""A second account of what the checker accepts, to compare the program with.

Like model.py it shares nothing with the program but the class House: it looks at all events of all phones by name.
"""

import functools
import re

import model
from examples import first_wrong_line
from holdhouse.houses import House

PICTURE_COUNTS = {"never": 1, "kept": 0, "comes": 1, "away": 0, "can": 2, "stuck": 2}


def is_picture(text, stands):
    condition = f"(?:not )?(?:in (?:{'|'.join(stands)})|caller|joined|a|b|ear a|ear b|voice|stranger)"
    return isinstance(text, str) and re.fullmatch(f"{condition}(?: and {condition}){{0,3}}", text) is not None


def is_count(thing, many):
    return type(thing) is int and 0 <= thing < many


@functools.lru_cache(maxsize=None)
def events_of(text, now):
    """All events that can be made, with what stands behind each of them."""
    return {event: behind for event, (behind, row) in model.events(House.read(text), now).items()}


class Judge:
    """What is true of a house."""

    def __init__(self, text):
        self.text = text
        self.house = House.read(text)
        self.lines = self.house.lines
        self.free = self.house.stands[0][0]

    def moment(self, shape, phones):
        """A moment with this shape."""
        lines, ears = shape
        stands, callers, a, b, mates = zip(*lines)
        return model.Now(stands, callers, tuple(zip(a, b)), mates, ears + (None,) * (phones - len(ears)))

    def is_shape(self, thing, phones):
        if not (type(thing) is tuple and len(thing) == 2 and all(type(part) is tuple for part in thing)):
            return False
        lines, ears = thing
        if len(lines) != self.lines or len(ears) > phones or not all(map(self.is_line, lines)):
            return False
        if not all(ear is None or is_count(ear, self.lines) for ear in ears):
            return False
        if not all(phone is None or phone < len(ears) for line in lines for phone in line[2:4]):
            return False
        for at, (stand, caller, a, b, mate) in enumerate(lines):
            if stand == self.free and (caller, a, b, mate) != (False, None, None, None):
                return False
            if mate is not None and (mate == at or lines[mate][4] != at):
                return False
        if not all(ear is None or phone in lines[ear][2:4] for phone, ear in enumerate(ears)):
            return False
        return repr(model.shape(self.moment(thing, phones))) == repr(thing)

    def is_line(self, thing):
        if not (type(thing) is tuple and len(thing) == 5):
            return False
        stand, caller, a, b, mate = thing
        return (type(stand) is str and stand in dict(self.house.stands) and type(caller) is bool
                and all(phone is None or is_count(phone, 20) for phone in (a, b)) and (a is None or a != b)
                and (mate is None or is_count(mate, self.lines)))

    def is_table(self, thing, phones):
        return (type(thing) is tuple and all(self.is_shape(shape, phones) for shape in thing)
                and len(set(thing)) == len(thing))

    def steps(self, shape, phones):
        """All events from a shape, with the shapes behind them."""
        now = self.moment(shape, phones)
        return [(event, now, behind) for event, behind in events_of(self.text, now).items()]

    def is_closed(self, table, phones):
        if model.shape(model.start(self.house, phones)) not in table:
            return False
        return all(model.shape(behind) in table
                   for shape in table for event, now, behind in self.steps(shape, phones))

    def closed_tables(self, thing):
        return (type(thing) is tuple and len(thing) == 2 * self.lines + 2
                and all(self.is_table(table, at + 1) for at, table in enumerate(thing))
                and all(self.is_closed(table, at + 1) for at, table in enumerate(thing)))

    def shown(self, shape, picture):
        return model.shown_lines(self.moment(shape, 20), picture)

    def nows(self, weaving):
        """What stands at the beginning and behind each event; None if it is no weaving."""
        if not (type(weaving) is tuple and len(weaving) == 2 and type(weaving[1]) is tuple
                and is_count(weaving[0], 21) and weaving[0] > 0):
            return None
        nows = [model.start(self.house, weaving[0])]
        for event in weaving[1]:
            behind = [now for one, now in events_of(self.text, nows[-1]).items() if repr(one) == repr(event)]
            if not behind:
                return None
            nows.append(behind[0])
        return nows

    def never(self, certificate, picture):
        return self.closed_tables(certificate) and not any(
            self.shown(shape, picture) for table in certificate for shape in table)

    def kept(self, certificate):
        return self.closed_tables(certificate) and not any(
            model.away(now, behind, event) for at, table in enumerate(certificate) for shape in table
            for event, now, behind in self.steps(shape, at + 1))

    def comes(self, certificate, picture):
        nows = self.nows(certificate)
        return nows is not None and bool(model.shown_lines(nows[-1], picture))

    def away(self, certificate):
        nows = self.nows(certificate)
        return nows is not None and len(nows) > 1 and model.away(nows[-2], nows[-1], certificate[1][-1])

    def can(self, certificate, picture, goal):
        if type(certificate) is not tuple:
            return False
        for table in certificate:
            if type(table) is not tuple or not all(map(self.is_numbered, table)):
                return False
        if not self.closed_tables(tuple(tuple(shape for shape, numbers in table) for table in certificate)):
            return False
        return all(self.number_holds(dict(table), shape, line, at + 1, picture, goal)
                   for at, table in enumerate(certificate) for shape, numbers in table for line in range(self.lines))

    def is_numbered(self, pair):
        return (type(pair) is tuple and len(pair) == 2 and type(pair[1]) is tuple and len(pair[1]) == self.lines
                and all(number is None or is_count(number, 10 ** 41) for number in pair[1]))

    def number_holds(self, numbers, shape, line, phones, picture, goal):
        number = numbers[shape][line]
        if number is None:
            return line not in self.shown(shape, picture)
        if number == 0:
            return line in self.shown(shape, goal)
        for event, now, behind in self.steps(shape, phones):
            if event[0] in model.CALM:
                own = numbers[model.shape(behind)][line]
                if model.shows(behind, line, goal):
                    return True
                if behind.stands[line] != self.free and own is not None and own < number:
                    return True
        return False

    def stuck(self, certificate, picture, goal):
        if not (type(certificate) is tuple and len(certificate) == 3):
            return False
        weaving, line, table = certificate
        nows = self.nows(weaving)
        if nows is None or not is_count(line, self.lines) or not self.is_table(table, weaving[0]):
            return False
        if not model.shows(nows[-1], line, picture) or model.shape(nows[-1]) not in table:
            return False
        if any(line in self.shown(shape, goal) for shape in table):
            return False
        return all(model.shape(behind) in table
                   or (behind.stands[line] == self.free and not model.shows(behind, line, goal))
                   for shape in table for event, now, behind in self.steps(shape, weaving[0])
                   if event[0] in model.CALM)


def accepts(claim, certificate):
    if not (type(claim) is tuple and len(claim) > 1 and type(claim[0]) is str and claim[0] in PICTURE_COUNTS):
        return False
    kind, text, *pictures = claim
    if len(pictures) != PICTURE_COUNTS[kind] or type(text) is not str or first_wrong_line(text) is not None:
        return False
    judge = Judge(text)
    if not all(is_picture(picture, dict(judge.house.stands)) for picture in pictures):
        return False
    return getattr(judge, kind)(certificate, *pictures)
