"""Stories: all that callers of a house may hear, word by word.

What can be heard next hangs on the spots at which the caller may be. Spots behind which just the same can be heard are
one *state*; several states are the bits of one integer.
"""

from holdhouse.rounds import round_numbers
from holdhouse.spots import Spots


class Stories:
    """What callers of a house may hear, from the call on."""

    def __init__(self, walks):
        spots = Spots(walks)
        rounds = round_numbers([list(others) for others in spots.quiet])
        loud, quiet = ways_of_rounds(spots, rounds)
        states, moves = parted(loud, quiet)
        # For each state, for each word that may come next, the states behind it.
        self.moves = {state: moves[at] for at, state in enumerate(states)}
        # For each first word the states behind it.
        self.starts = {}
        add_moves(self.starts, [(word, 1 << states[rounds[spot]]) for word, spot in spots.starts])

    def behind(self, states):
        """For each word that may come next the states behind it."""
        found = {}
        while states:
            others = states & (states - 1)
            add_moves(found, list(self.moves[(states ^ others).bit_length() - 1].items()))
            states = others
        return found


def add_moves(found, moves):
    """Add pairs of a word and states to a dict of the states for each word."""
    for word, states in moves:
        found[word] = found.get(word, 0) | states


def ways_of_rounds(spots, rounds):
    """For each round of spots the pairs of another word and a round behind it, and the rounds with the same word."""
    many = 1 + max(rounds)
    loud = [{} for number in range(many)]
    quiet = [{} for number in range(many)]
    for spot, number in enumerate(rounds):
        for word, other in spots.loud[spot]:
            loud[number][word, rounds[other]] = True
        for other in spots.quiet[spot]:
            if rounds[other] != number:
                quiet[number][rounds[other]] = True
    return loud, quiet


def parted(loud, quiet):
    """The state of each round, and for each round the states behind each word that may come next.

    At first all are thought to be one state. They are parted as long as different states come behind some of one.
    """
    states = [0] * len(loud)
    many = 0
    while many <= max(states):
        many = 1 + max(states)
        moves = moves_of_rounds(loud, quiet, states)
        numbers = {}
        states = [numbers.setdefault(tuple(sorted(list(of_round.items()))), len(numbers)) for of_round in moves]
    return states, moves


def moves_of_rounds(loud, quiet, states):
    """For each round, for each word that may come next, the states behind it."""
    found = [{} for number in loud]
    # A round is asked for what comes behind all rounds that follow with the same word, so these are looked at first.
    for number in reversed(range(len(loud))):
        for other in quiet[number]:
            add_moves(found[number], list(found[other].items()))
        add_moves(found[number], [(word, 1 << states[other]) for word, other in loud[number]])
    return found
