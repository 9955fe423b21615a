"""Rounds: the points of a web of ways from each of which one can come to each other one, and back."""


def round_numbers(ways):
    """For each point the number of its round; a way to another round leads to a greater number.

    `ways` has for each point, by its number, those to which a way leads.
    """
    ways_back = turned(ways)
    found = [None] * len(ways)
    many = 0
    for point in reversed(list(leaving_order(ways))):
        if found[point] is None:
            fill_round(ways_back, point, found, many)
            many += 1
    return found


def turned(ways):
    """The ways, led back: for each point those from which a way leads to it."""
    found = [[] for point in ways]
    for point, others in enumerate(ways):
        for other in others:
            found[other].append(point)
    return found


def leaving_order(ways):
    """The points in the order in which a search leaves them, if it goes on from the last one that it came to."""
    order = []
    seen = [False] * len(ways)
    for start in range(len(ways)):
        path = [] if seen[start] else [(start, 0)]
        seen[start] = True
        while path:
            point, at = path.pop()
            if at == len(ways[point]):
                order.append(point)
                continue
            path.append((point, at + 1))
            other = ways[point][at]
            if not seen[other]:
                seen[other] = True
                path.append((other, 0))
    return order


def fill_round(ways_back, point, found, number):
    """Give this number to the point, and to all without a number from which one can come to it."""
    found[point] = number
    waiting = [point]
    while waiting:
        latest = waiting.pop()
        for other in ways_back[latest]:
            if found[other] is None:
                found[other] = number
                waiting.append(other)
