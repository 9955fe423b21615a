"""A second account of hearings, to compare the program with: all hearings up to some length, from the webs of model.py."""

import model


class Told:
    """What callers of a house can hear. A state is a number of phones, what stands, and a line."""

    def __init__(self, house, webs):
        self.ways, self.starts = {}, set()
        for web in webs:
            for now, event, behind, row in web.steps:
                for line in range(house.lines):
                    self.add(house, web, now, event, behind, line)

    def add(self, house, web, now, event, behind, line):
        state, state_behind = [(web.phones, web.sign(one), line) for one in (now, behind)]
        word, word_behind = [model.heard(house, one, line) for one in (now, behind)]
        if word is None:
            if event[:2] == ("call", line) and word_behind is not None:
                self.starts.add((word_behind, state_behind))
        elif event[:2] == ("gone", line):
            self.ways.setdefault(state, set()).add(("gone", None))
        elif word_behind is None:
            self.ways.setdefault(state, set()).add(("over", None))
        else:
            word = None if word == word_behind else word_behind
            self.ways.setdefault(state, set()).add((word, state_behind))

    def settled(self, states):
        """All states to which the caller can come from these without another word."""
        found, waiting = set(states), list(states)
        while waiting:
            for word, state in self.ways.get(waiting.pop(), ()):
                if word is None and state not in found:
                    found.add(state)
                    waiting.append(state)
        return found

    def hearings(self, longest):
        """All hearings with at most so many words."""
        found, level = set(), {}
        for word, state in self.starts:
            level.setdefault((word,), set()).add(state)
        for turn in range(longest):
            found |= set(level)
            further = {}
            for words, states in level.items():
                for state in self.settled(states):
                    for word, behind in self.ways.get(state, ()):
                        if word is not None:
                            further.setdefault(words + (word,), set()).add(behind)
            level = further
        return found


def parting(one, other):
    """The shortest and least of the one hearings that is none of the other; None if there is none."""
    return min(one - other, key=lambda words: (len(words), words), default=None)


def bent_house(chance, house):
    """The house with one or two of its rows taken out, exchanged, or put in."""
    rows = list(house.rows)
    for turn in range(chance.randint(1, 2)):
        way, at = chance.choice(("out", "other", "in", "in")), chance.randrange(len(rows) or 1)
        row = model.random_row(chance, [stand for stand, sound in house.stands], house.key_words)
        if way == "in" or not rows:
            rows.insert(at, row)
        elif way == "out":
            del rows[at]
        else:
            rows[at] = row
    return model.House(house.lines, house.stands, house.key_words, tuple(rows[:16]))
