"""The reached sets of two webs: a standing of low, and all that high may stand at by then."""

from coretower.errors import TooLarge
from coretower.kinds import is_visible


class Subsets:
    """The reached sets, found by a breadth-first search; no more than the bound, unless it is None."""

    def __init__(self, low, high, bound):
        # A shortest run of low with a history that high does not have, if there is one.
        self.lost_run = None
        self._low = low
        self._high = high
        self._bound = bound
        # A tuple of standings of high goes by its number; for each, the numbers to which deeds lead.
        self._tuples = []
        self._numbers = {}
        self._leads = []
        # Each reached set, with the place of the one that it was found from, and the deed.
        self._found = []
        self._back = []
        self._seen = {}
        self._reach(0, self._number([0]), None, None)
        place = 0
        while place < len(self._found):
            self._spread(place)
            place += 1

    def _number(self, stands):
        key = tuple(stands)
        if key not in self._numbers:
            self._numbers[key] = len(self._tuples)
            self._tuples.append(key)
            self._leads.append(None)
        return self._numbers[key]

    def _reach(self, at, number, place, deed):
        if (at, number) in self._seen:
            return
        if self._bound is not None and len(self._found) == self._bound:
            raise TooLarge(self._bound)
        self._seen[(at, number)] = True
        self._found.append((at, number))
        self._back.append((place, deed))

    def _spread(self, place):
        at, number = self._found[place]
        if self._leads[number] is None:
            offers = self._high.offers(self._tuples[number])
            self._leads[number] = {deed: self._number(offers[deed]) for deed in offers}
        for deed, goal in self._low.moves(at):
            if not is_visible(deed):
                self._reach(goal, number, place, deed)
            elif deed in self._leads[number]:
                self._reach(goal, self._leads[number][deed], place, deed)
            elif self.lost_run is None:
                self.lost_run = self._run(place) + [deed]

    def _run(self, place):
        """The run to the reached set at this place."""
        run = []
        while place > 0:
            place, deed = self._back[place]
            run.append(deed)
        return run[::-1]

    def told(self):
        """The ascending list of the reached sets."""
        return sorted([(at, self._tuples[number]) for at, number in self._found])
