"""Ends: whether the calls of a web come to their returns, whatever its callers do."""

from coretower.errors import BadSetting, NotRegular
from coretower.loops import Loops, round_through
from coretower.reaching import found_from, run_to

EVERYONE = (0, 1, 2)


class Ends:
    """What point 40 tells of a regular web."""

    def __init__(self, web):
        self._web = web
        self._back = found_from(web)
        # For each standing that runs lead to, in the order of the search, the callers with an open call.
        self._open = open_callers(web, list(self._back))
        self._loops = {}

    def stuck(self):
        """Whether at some standing a call is open and nobody is able."""
        return self.stuck_run() is not None

    def stuck_run(self):
        """A shortest run to a standing at which a call is open and nobody is able, or None."""
        for at in self._back:
            if self._open[at] and not self._web.moves(at):
                return run_to(at, self._back)
        return None

    def some(self):
        """Whether no round is without a return."""
        return not self._bad_stops("some")

    def each(self):
        """Whether no call stays open in a round in which its caller makes a deed or is not able at some standing."""
        return not self._bad_stops("each")

    def fair(self):
        """Whether no call stays open in a round in which each caller makes a deed or is not able at some standing."""
        return not self._bad_stops("fair")

    def singly(self):
        """Whether each caller with an open call comes to its return when only its own deeds are made."""
        for caller in EVERYONE:
            own = {}
            for at in self._stands_open(caller):
                moves = [(deed, goal) for deed, goal in self._web.moves(at) if deed[0] == caller]
                if not moves:
                    return False
                own[at] = [(deed, goal) for deed, goal in moves if deed[1] != "return"]
            if Loops(own).loop_numbers():
                return False
        return True

    def lasso(self, word):
        """None, or the stem and the round that keep the web from ending as the word tells."""
        if word not in ("some", "each", "fair"):
            raise BadSetting(word)
        stops = self._bad_stops(word)
        if not stops:
            return None
        loops, number, edges = stops
        stem = run_to(edges[0][0], self._back)
        return stem, round_through(loops.edges(number), edges)

    def falls(self):
        """For each standing an integer that falls with every move but returns; None if there is a round without one."""
        loops = self._loops_without(None)
        if loops.loop_numbers():
            return None
        heights = loops.heights()
        return [heights.get(at, 0) for at in range(len(self._web))]

    def _stands_open(self, caller):
        """The standings at which a caller has an open call; for None all that runs lead to."""
        return [at for at, callers in self._open.items() if caller is None or caller in callers]

    def _loops_without(self, caller):
        """The loops in which the call of a caller stays open; for None those without any return."""
        if caller not in self._loops:
            rows = {}
            for at in self._stands_open(caller):
                moves = self._web.moves(at)
                rows[at] = [(deed, goal) for deed, goal in moves if not is_return_of(deed, caller)]
            self._loops[caller] = Loops(rows)
        return self._loops[caller]

    def _bad_stops(self, word):
        """Loops, the number of one and edges in it: a round through these is excluded by the word. () if none is."""
        for caller in [None] if word == "some" else EVERYONE:
            loops = self._loops_without(caller)
            for number in loops.loop_numbers():
                stops = self._stops(loops.edges(number), word, caller)
                if stops:
                    return loops, number, stops
        return ()

    def _stops(self, edges, word, caller):
        """The edges of a loop that a round must have, so that the word excludes it; [] if no round will do."""
        if word == "some":
            return edges[:1]
        stops = []
        for other in EVERYONE if word == "fair" else (caller,):
            found = self._edge_for(edges, other)
            if found is None:
                return []
            stops.append(found)
        return stops

    def _edge_for(self, edges, caller):
        """An edge that is a deed of the caller, or that begins where it is not able, or None."""
        for edge in edges:
            at, deed, _ = edge
            if deed[0] == caller or not self._is_able(at, caller):
                return edge
        return None

    def _is_able(self, at, caller):
        return any([deed[0] == caller for deed, _ in self._web.moves(at)])


def is_return_of(deed, caller):
    """Whether a deed is a return of the caller; for None of any caller."""
    return deed[1] == "return" and (caller is None or deed[0] == caller)


def open_callers(web, stands):
    """A dict from these standings, each behind one that leads to it, to the callers with an open call."""
    found = {0: ()}
    for at in stands:
        for deed, goal in web.moves(at):
            callers = callers_after(found[at], deed)
            if found.setdefault(goal, callers) != callers:
                raise NotRegular()
    return found


def callers_after(callers, deed):
    """The ascending tuple of the callers with an open call behind a deed."""
    caller, word, _ = deed
    if word == "step":
        return callers
    if (caller in callers) == (word == "call"):
        raise NotRegular()
    if word == "call":
        return tuple(sorted(callers + (caller,)))
    return tuple([other for other in callers if other != caller])
