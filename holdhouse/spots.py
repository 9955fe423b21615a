"""Spots: the lines with callers at all shapes that come, and what these callers hear next."""

from holdhouse.facts import heard_word
from holdhouse.standings import STAND

# The spot of all callers who hear nothing any more.
END = 0


class Spots:
    """The spots of a house, numbered behind END, and the ways from one to another."""

    def __init__(self, walks):
        web = walks[0].web
        # For each shape of the web, by its number, what the caller of each line hears, or None.
        self.words = [words_at(web, number) for number in range(len(web.kin))]
        self.numbers = number_spots(walks, self.words)
        # For each spot the ones behind it where the same word is heard.
        self.quiet = [{} for spot in range(len(self.numbers) + 1)]
        # For each spot pairs of another word and a spot behind it.
        self.loud = [{} for spot in range(len(self.numbers) + 1)]
        # Pairs of the first word and the spot behind a call.
        self.starts = {}
        for at, walk in enumerate(walks):
            for number in walk.found:
                self.look_from(at, number, walk.steps[number])

    def look_from(self, at, number, steps):
        """Look for the ways from the spots at a shape of a walk."""
        words = self.words[number]
        for step in steps:
            for line, word in enumerate(words):
                if word is not None:
                    self.add_way(self.numbers[at, number, line], word, self.behind(at, step, line))
            if step.event[0] == "call":
                start = self.behind(at, step, step.event[1])
                # Otherwise the call is turned away.
                if start[1] != END:
                    self.starts[start] = True

    def behind(self, at, step, line):
        """The pair of what is heard behind a step on this line, and of the spot there."""
        if step.event[:2] == ("gone", line):
            return "gone", END
        number, order = step.place
        word = self.words[number][order[line]]
        if word is None:
            return "over", END
        return word, self.numbers[at, number, order[line]]

    def add_way(self, spot, word, behind):
        """Note what follows a spot where this word is heard."""
        if behind[0] != word:
            self.loud[spot][behind] = True
        elif behind[1] != spot:
            self.quiet[spot][behind[1]] = True


def words_at(web, number):
    """What the caller of each line hears at the shape with this number."""
    sounds = web.plan.sounds
    lines, ears = web.kin[number][0]
    return [heard_word(facts, sounds[lines[at][STAND]]) for at, facts in enumerate(web.facts[number])]


def number_spots(walks, words):
    """A number for each spot, told by the index of a walk, the number of a shape, and a line."""
    found = {}
    for at, walk in enumerate(walks):
        for number in walk.found:
            for line, word in enumerate(words[number]):
                if word is not None:
                    found[at, number, line] = len(found) + 1
    return found
