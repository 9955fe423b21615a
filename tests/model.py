"""A second account of moments and of the questions about them, to compare the program with.

It shares nothing with the program but the class House. It keeps phones by name, tries every pick of every event, and
follows the words of the document without a thought for how long it takes.
"""

import collections
import random

from holdhouse.houses import House

# What stands: for each line its stand, whether it has a caller, its pair of places, its mate; for each phone its line.
Now = collections.namedtuple("Now", "stands callers places mates ears")

CALM = ("late", "key", "lay")


def now_of(moment):
    """What a moment of the program tells."""
    return Now(moment.stands, moment.callers, moment.places, moment.mates, moment.ears)


def start(house, phones):
    lines = house.lines
    return Now((house.stands[0][0],) * lines, (False,) * lines, ((None, None),) * lines, (None,) * lines,
               (None,) * phones)


class World:
    """What stands, while an event changes it."""

    def __init__(self, now, at, who):
        self.stands = list(now.stands)
        self.callers = list(now.callers)
        self.at_place = {(line, place): now.places[line]["ab".index(place)]
                         for line in range(len(now.stands)) for place in "ab"}
        self.pairs = {frozenset((line, mate)) for line, mate in enumerate(now.mates) if mate is not None}
        self.hears = {phone: line for phone, line in enumerate(now.ears) if line is not None}
        self.many = len(now.ears)
        self.at, self.who = at, who

    def now(self):
        lines = range(len(self.stands))
        return Now(tuple(self.stands), tuple(self.callers),
                   tuple((self.at_place[line, "a"], self.at_place[line, "b"]) for line in lines),
                   tuple(self.mate(line) for line in lines),
                   tuple(self.hears.get(phone) for phone in range(self.many)))

    def copy(self):
        return World(self.now(), self.at, self.who)

    def mate(self, line):
        for pair in self.pairs:
            if line in pair:
                return next(iter(pair - {line}))
        return None

    def loose(self):
        return [phone for phone in range(self.many) if phone not in self.at_place.values()]

    def settle(self):
        """Phones that are at no place of a line do not hear it any more."""
        self.hears = {phone: line for phone, line in self.hears.items()
                      if phone in (self.at_place[line, "a"], self.at_place[line, "b"])}

    def come(self, place, phone):
        for each in "ab":
            if phone is not None and self.at_place[self.at, each] == phone:
                self.at_place[self.at, each] = None
        self.at_place[self.at, place] = phone

    def part(self, line):
        self.pairs = {pair for pair in self.pairs if line not in pair}

    def fits(self, condition):
        plain = condition.removeprefix("not ")
        return self.fits_plain(*plain.split(" ")) is (plain == condition)

    def fits_plain(self, word, rest=None):
        place = self.at_place.get((self.at, rest or word))
        return {
            "in": self.stands[self.at] == rest,
            "caller": self.callers[self.at],
            "joined": self.mate(self.at) is not None,
            "a": place is not None,
            "b": place is not None,
            "ear": place is not None and self.hears.get(place) == self.at,
            "me": place is not None and place == self.who,
            "busy": self.who in self.hears and self.hears[self.who] != self.at,
        }[word]

    def deed(self, deed):
        """Do a deed without a choice."""
        word, _, rest = deed.partition(" ")
        if word == "stand":
            self.stands[self.at] = rest
        elif word in "ab":
            self.come(word, {"none": None, "me": self.who}[rest])
        elif word == "swap":
            a, b = self.at_place[self.at, "a"], self.at_place[self.at, "b"]
            self.at_place[self.at, "a"], self.at_place[self.at, "b"] = b, a
        elif word == "deaf":
            self.hears = {phone: line for phone, line in self.hears.items() if line != self.at}
        elif word == "part":
            self.part(self.at)
        elif word == "hear":
            if self.who in (self.at_place[self.at, "a"], self.at_place[self.at, "b"]):
                self.hears[self.who] = self.at
        elif word == "join":
            other = self.hears.get(self.who, self.at)
            if other != self.at and self.mate(other) is None and self.mate(self.at) is None:
                self.pairs.add(frozenset((self.at, other)))
        self.settle()

    def clear(self, free):
        for line, stand in enumerate(self.stands):
            if stand == free:
                self.callers[line] = False
                self.at_place[line, "a"] = self.at_place[line, "b"] = None
                self.part(line)
        self.settle()


def openings(house, now):
    """All events that can be made, without their picks."""
    phones, lines = range(len(now.ears)), range(house.lines)
    free = house.stands[0][0]
    return ([("call", line) for line in lines if now.stands[line] == free]
            + [("gone", line) for line in lines if now.callers[line]]
            + [("late", line) for line in lines if now.stands[line] != free]
            + [("key", key, phone, line) for key in house.key_words for phone in phones for line in lines]
            + [("lay", phone) for phone in phones if now.ears[phone] is not None])


def concerned(now, opening):
    """The line and the phone of an event."""
    if opening[0] == "key":
        return opening[3], opening[2]
    if opening[0] == "lay":
        return now.ears[opening[1]], opening[1]
    return opening[1], None


def outcomes(house, now, opening):
    """For each picks that fit: what stands behind the event, and the index of the row that did its deeds."""
    world = World(now, *concerned(now, opening))
    if opening[0] in ("call", "gone"):
        world.callers[world.at] = opening[0] == "call"
    if opening[0] == "lay":
        del world.hears[world.who]
    occasion = f"key {opening[1]}" if opening[0] == "key" else opening[0]
    ways, done = [((), world)], None
    for index, row in enumerate(house.rows):
        head, tail = row.split(": ")
        word, _, conditions = head.partition(" if ")
        if word == occasion and all(world.fits(one) for one in conditions.split(" and ") if one):
            ways, done = do_all([((), world)], tail.split(", ")), index
            break
    found = {}
    for picks, world in ways:
        world.clear(house.stands[0][0])
        found[picks] = (world.now(), done)
    return found


def do_all(ways, deeds):
    for deed in deeds:
        further = []
        for picks, world in ways:
            comers = [phone for phone in world.loose() if phone != world.who] if deed.endswith(" some") else []
            for phone in comers:
                other = world.copy()
                other.come(deed[0], phone)
                other.settle()
                further.append((picks + (phone,), other))
            if not comers:
                world.deed(deed.replace(" some", " none"))
                further.append((picks, world))
        ways = further
    return ways


def events(house, now):
    """All events that can be made, with what stands behind them and the row that did its deeds."""
    return {opening + (picks,): behind
            for opening in openings(house, now) for picks, behind in outcomes(house, now, opening).items()}


def shape(now):
    numbers = {}
    for pair in now.places:
        for phone in pair:
            if phone is not None:
                numbers.setdefault(phone, len(numbers))
    lines = tuple((stand, caller, numbers.get(a), numbers.get(b), mate)
                  for stand, caller, (a, b), mate in zip(now.stands, now.callers, now.places, now.mates))
    return lines, tuple(now.ears[phone] for phone in numbers)


def voice(now, line):
    return any(ear is not None and ear in (line, now.mates[line]) for ear in now.ears)


def stranger(now, line):
    return now.mates[line] is not None and now.callers[now.mates[line]]


def heard(house, now, line):
    if not now.callers[line]:
        return None
    names = {(True, True): "both", (True, False): "voice", (False, True): "stranger"}
    return names.get((voice(now, line), stranger(now, line)), dict(house.stands)[now.stands[line]])


def shows(now, line, picture):
    world = World(now, line, None)
    for condition in picture.split(" and "):
        plain = condition.removeprefix("not ")
        if plain == "voice":
            holds = voice(now, line)
        elif plain == "stranger":
            holds = stranger(now, line)
        else:
            holds = world.fits(plain)
        if holds is not (plain == condition):
            return False
    return True


def shown_lines(now, picture):
    return [line for line in range(len(now.stands)) if shows(now, line, picture)]


def away(ahead, behind, event):
    """Whether somebody is called away by the event."""
    presser = {"key": 2, "lay": 1}.get(event[0])
    return any(line is not None and behind.ears[phone] != line and ahead.callers[line] and behind.callers[line]
               for phone, line in enumerate(ahead.ears) if presser is None or event[presser] != phone)


class Web:
    """All that comes with so many phones: by names, or (much less) one for each shape.

    With `few`, it ends once more than so many come; `whole` tells whether it came to its own end.
    """

    def __init__(self, house, phones, named=False, few=None):
        self.house, self.phones = house, phones
        self.sign = (lambda now: now) if named else shape
        first = start(house, phones)
        self.depth = {self.sign(first): 0}
        self.nows = [first]
        self.steps = []
        self.whole = True
        for now in self.nows:
            if few is not None and len(self.nows) > few:
                self.whole = False
                break
            for event, (behind, row) in events(house, now).items():
                self.steps.append((now, event, behind, row))
                if self.sign(behind) not in self.depth:
                    self.depth[self.sign(behind)] = self.depth[self.sign(now)] + 1
                    self.nows.append(behind)

    def shapes(self):
        return {shape(now) for now in self.nows}

    def most(self, picture):
        return max(len(shown_lines(now, picture)) for now in self.nows)

    def done(self):
        return {row for now, event, behind, row in self.steps if row is not None}

    def least(self, nows):
        return min((self.depth[self.sign(now)] for now in nows), default=None)

    def first(self, picture):
        return self.least(now for now in self.nows if shown_lines(now, picture))

    def away(self):
        ahead = self.least(now for now, event, behind, row in self.steps if away(now, behind, event))
        return None if ahead is None else ahead + 1

    def can(self, line, goal):
        """The signs of all that the goal can come from for the line."""
        free = self.house.stands[0][0]
        found = {self.sign(now) for now in self.nows if shows(now, line, goal)}
        many = -1
        while many < len(found):
            many = len(found)
            for now, event, behind, row in self.steps:
                if event[0] in CALM and self.sign(behind) in found:
                    if behind.stands[line] != free or shows(behind, line, goal):
                        found.add(self.sign(now))
        return found

    def stuck_nows(self, picture, goal):
        can = [self.can(line, goal) for line in range(self.house.lines)]
        return [now for now in self.nows
                if any(self.sign(now) not in can[line] for line in shown_lines(now, picture))]

    def stuck(self, picture, goal):
        return self.least(self.stuck_nows(picture, goal))


def small_webs(house, few):
    """The webs for all numbers of phones that are enough, and one more; None if more than few shapes come."""
    webs = []
    for phones in range(1, 2 * house.lines + 4):
        webs.append(Web(house, phones, few=few))
        if not webs[-1].whole:
            return None
    return webs


def fewest(webs, ask):
    """The pair of numbers of phones and events that a question must tell, or None."""
    for web in webs:
        many = ask(web)
        if many is not None:
            return web.phones, many
    return None


def hearing(house, weaving, line):
    """The hearing, from the words at all moments at once."""
    now = start(house, weaving[0])
    story = []
    for event in weaving[1]:
        now = events(house, now)[event][0]
        story.append((event[:2], heard(house, now, line)))
    begun = [at for at, (event, word) in enumerate(story) if event == ("call", line) and word is not None]
    if not begun:
        return ()
    words = [story[begun[-1]][1]]
    for event, word in story[begun[-1] + 1:]:
        if event == ("gone", line):
            return tuple(words) + ("gone",)
        if word is None:
            return tuple(words) + ("over",)
        if word != words[-1]:
            words.append(word)
    return tuple(words)


def random_house(seed, lines, rows, keys=2, stands=3):
    """A house that the seed determines."""
    chance = random.Random(seed)
    words = ("free", "ring", "talk", "held", "park", "wait")[:stands]
    key_words = ("hold", "take", "join")[:keys]
    told = [row for row in (random_row(chance, words, key_words) for turn in range(rows))]
    if chance.random() < 0.8:
        told.insert(0, f"call: {chance.choice(('a some, ', 'b some, ', 'a some, b some, ', ''))}"
                       f"stand {chance.choice(words[1:])}")
    pairs = tuple((word, chance.choice(("quiet", "tone", "music"))) for word in words)
    return House(lines, pairs, key_words, tuple(told[:16]))


def random_row(chance, words, keys):
    occasion = chance.choice(["call", "gone", "late", "lay"] + [f"key {key}" for key in keys] * 2)
    conditions = ["caller", "joined", "a", "b", "ear a", "ear b"] + [f"in {word}" for word in words] * 2
    deeds = [f"stand {word}" for word in words[1:]] * 3 + ["stand free", "swap", "deaf", "part"]
    deeds += ["a none", "b none", "a some", "a some", "b some"]
    if occasion[:3] in ("lay", "key"):
        conditions += ["me a", "me b", "busy"] * 2
        deeds += ["a me", "b me"] * 2
    if occasion[:3] == "key":
        deeds += ["hear", "join"] * 3
    some = [chance.choice(("", "", "not ")) + chance.choice(conditions) for turn in range(chance.randint(0, 2))]
    head = occasion + (" if " + " and ".join(some) if some else "")
    return head + ": " + ", ".join(chance.choice(deeds) for turn in range(chance.randint(1, 4)))


def random_picture(chance, house):
    conditions = ["caller", "joined", "a", "b", "ear a", "ear b", "voice", "stranger", "voice", "stranger"]
    conditions += [f"in {stand}" for stand, sound in house.stands]
    return " and ".join(chance.choice(("", "", "not ")) + chance.choice(conditions)
                        for turn in range(chance.randint(1, 3)))
