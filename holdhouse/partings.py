"""Partings: hearings of one house that are none of another one."""


def parting_words(one, other):
    """The shortest hearing in the one stories that is none in the other, of several the least one; or None.

    Hearings are gone through from the shorter to the longer ones, and those of one length from the least one on. So one
    behind which both stories are in states that were met before need not be gone on with.
    """
    waiting = [((), one.starts, other.starts)]
    met = {}
    at = 0
    while at < len(waiting):
        words, moves, other_moves = waiting[at]
        for word in sorted(list(moves)):
            more = (*words, word)
            if word not in other_moves:
                return more
            pair = (moves[word], other_moves[word])
            if pair not in met:
                met[pair] = True
                waiting.append((more, one.behind(pair[0]), other.behind(pair[1])))
        at += 1
    return None
