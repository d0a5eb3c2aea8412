"""Rings among numbered things, of each of which it is known to which ones it leads."""


def shortest_ring(nexts):
    """The first of the shortest rings, a list of numbers begun with its least one; None without any.

    Of each number, nexts has the numbers to which it leads.
    """
    best = None
    for first in range(len(nexts)):
        ring = _ring_from(first, nexts)
        if ring is not None and (best is None or len(ring) < len(best)):
            best = ring
    return best


def _ring_from(first, nexts):
    """The first of the shortest rings whose least number is this one."""
    ways = _ways_back(first, nexts)
    ring = []
    at = first
    while not ring or at != first:
        onward = [(ways[near], near) for near in nexts[at] if near in ways]
        if not onward:
            return None
        ring.append(at)
        at = min(onward)[1]
    return ring


def _ways_back(first, nexts):
    """How many steps lead back to the first one, through greater numbers alone, of each of these that does."""
    ways = {first: 0}
    for steps in range(1, len(nexts)):
        for at in range(first + 1, len(nexts)):
            if at not in ways and steps - 1 in [ways.get(near) for near in nexts[at]]:
                ways[at] = steps
    return ways
