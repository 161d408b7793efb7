"""Chances: what a table and its callers can be at, as far as a trace has been seen."""

from coretower.clients import MOST_CALLERS
from coretower.kinds import is_below
from coretower.tuples import changed

class Chances:
    """All that a table and its callers can be at behind the deeds that were seen.

    A chance is a tuple of the table's state and a tuple with a pair for each caller that has an open call: its
    operation and None, or None and its answer. Calls are not answered before a return asks for it.
    """

    def __init__(self, table):
        self._table = table
        self._found = [(table.first, tuple([None for _ in range(MOST_CALLERS)]))]

    def are_gone(self):
        """Whether what was seen cannot be."""
        return not self._found

    def see(self, deed):
        """Go on to what can be behind one more deed."""
        caller, word, what = deed
        if word == "call":
            self._found = [(state, changed(calls, caller, (what, None))) for state, calls in self._found]
        else:
            told = [(state, calls) for state, calls in self._answered(caller) if calls[caller][1] == what]
            # Two chances may differ in nothing but the call that has returned.
            left = {(state, changed(calls, caller, None)): True for state, calls in told}
            self._found = list(left)

    def answers_of(self, caller):
        """The ascending list of what the open call of a caller can return next."""
        if not is_below(caller, MOST_CALLERS):
            return []
        found = [calls[caller] for _, calls in self._answered(caller)]
        return sorted({call[1] for call in found if call is not None})

    def _answered(self, caller):
        """What can be as soon as the open call of this caller, if it has one, has its answer."""
        seen = {chance: True for chance in self._found}
        waiting = list(seen)
        done = []
        while waiting:
            state, calls = waiting.pop()
            if calls[caller] is None or calls[caller][1] is not None:
                done.append((state, calls))
                continue
            for goal in self._one_more(state, calls):
                if goal not in seen:
                    seen[goal] = True
                    waiting.append(goal)
        return done

    def _one_more(self, state, calls):
        """The chances when the table has answered one more call."""
        table = self._table
        goals = []
        for caller, call in enumerate(calls):
            if call is not None and call[1] is None:
                answer, goal = table(call[0], state)
                goals.append((goal, changed(calls, caller, (None, answer))))
        return goals
