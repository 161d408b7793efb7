"""Loops: the parts of a graph in which rounds go."""

from coretower.circles import parts_of


class Loops:
    """The loops of a graph, told as a dict from places to lists of pairs of a deed and a place.

    Two edges are in the same loop exactly if some round has both. An edge is a tuple of a place, a deed and the
    place that this leads to.
    """

    def __init__(self, rows):
        places = {at: number for number, at in enumerate(rows)}
        parts = parts_of([[places[goal] for _, goal in row] for row in rows.values()])
        self._parts = {at: parts[number] for at, number in places.items()}
        self._edges = {}
        for at, row in rows.items():
            for deed, goal in row:
                if self._parts[at] == self._parts[goal]:
                    self._edges.setdefault(self._parts[at], []).append((at, deed, goal))

    def loop_numbers(self):
        """The list of the numbers of the loops."""
        return list(self._edges)

    def edges(self, number):
        """The list of the edges of a loop."""
        return list(self._edges[number])

    def heights(self):
        """A dict from the places to integers that never rise along an edge, and fall unless it is one of a loop."""
        return {at: len(self._parts) - part for at, part in self._parts.items()}


def round_through(edges, stops):
    """The deeds of a round of a loop that has all of the edges named as stops, the first one first."""
    after = {}
    for at, deed, goal in edges:
        after.setdefault(at, []).append((deed, goal))
    start = stops[0][0]
    deeds = []
    stand = start
    for at, deed, goal in stops:
        deeds.extend(way_to(after, stand, at))
        deeds.append(deed)
        stand = goal
    return deeds + way_to(after, stand, start)


def way_to(after, start, goal):
    """The deeds of a shortest way from one place to another."""
    back = {start: None}
    waiting = [start]
    place = 0
    while goal not in back:
        at = waiting[place]
        for deed, following in after[at]:
            if following not in back:
                back[following] = (at, deed)
                waiting.append(following)
        place += 1
    deeds = []
    while back[goal] is not None:
        goal, deed = back[goal]
        deeds.append(deed)
    return deeds[::-1]
