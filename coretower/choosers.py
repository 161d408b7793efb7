"""Choosers: who of the callers that could make a deed may do so."""

from coretower.clients import MOST_CALLERS
from coretower.errors import BadChooser, BadNumber, TooLarge
from coretower.kinds import is_below

MOST_STATES = 12


class Chooser:
    """States, each with groups of callers and a next state for each caller; state 0 is the first one."""

    def __init__(self, callers, states):
        check_callers(callers)
        if not 1 <= len(states) <= MOST_STATES:
            raise TooLarge(MOST_STATES)
        for at, state in enumerate(states):
            if not is_state(state, callers, len(states)):
                raise BadChooser(at)
        self.callers = callers
        self._states = list(states)

    def __len__(self):
        return len(self._states)

    def __call__(self, state, able):
        for group in self._state(state)[0]:
            chosen = tuple([caller for caller in able if caller in group])
            if chosen:
                return chosen
        return ()

    def after(self, state, caller):
        """The next state, when a caller has made a deed."""
        return self._state(state)[1][caller]

    def states(self):
        """The list of the pairs of groups and next states."""
        return list(self._states)

    def _state(self, at):
        if not is_below(at, len(self._states)):
            raise BadChooser(at)
        return self._states[at]

    @staticmethod
    def free(callers):
        """The chooser that lets by whoever is able."""
        check_callers(callers)
        return Chooser(callers, [((tuple(range(callers)),), tuple([0 for _ in range(callers)]))])

    @staticmethod
    def ranked(callers):
        """The chooser that lets a lower caller go ahead of a higher one."""
        check_callers(callers)
        return Chooser(callers, [(tuple([(caller,) for caller in range(callers)]), tuple([0 for _ in range(callers)]))])

    @staticmethod
    def rotating(callers):
        """The chooser that prefers whoever stands behind the last one that made a deed."""
        check_callers(callers)
        goals = tuple([(caller + 1) % callers for caller in range(callers)])
        ring = list(range(callers)) + list(range(callers))
        return Chooser(callers, [
            (tuple([(caller,) for caller in ring[first:first + callers]]), goals) for first in range(callers)])


def check_callers(callers):
    """Raise BadNumber unless this, any value, is a number of callers."""
    if not is_below(callers, MOST_CALLERS + 1) or callers == 0:
        raise BadNumber(callers)


def is_state(state, callers, many):
    """Whether this, any value, is a state of a chooser with so many callers and so many states."""
    if not isinstance(state, tuple) or len(state) != 2:
        return False
    groups, goals = state
    if not isinstance(groups, tuple) or not isinstance(goals, tuple) or len(goals) != callers:
        return False
    return are_groups(groups, callers) and all([is_below(goal, many) for goal in goals])


def are_groups(groups, callers):
    """Whether these, any values, are groups in which each of so many callers stands once."""
    if not all([isinstance(group, tuple) and len(group) > 0 for group in groups]):
        return False
    placed = [caller for group in groups for caller in group]
    return all([is_below(caller, callers) for caller in placed]) and sorted(placed) == list(range(callers))


def lets(chooser, row):
    """Whether a chooser lets a row of pairs of the able callers and the one that goes by."""
    state = 0
    for able, caller in row:
        if caller not in chooser(state, able):
            return False
        state = chooser.after(state, caller)
    return True


def parting_row(a, b):
    """None if b lets by every row that a does; otherwise the least of the shortest rows that only a lets by."""
    if a.callers != b.callers:
        raise BadNumber(b.callers)
    ables = able_tuples(a.callers)
    found = [(0, 0)]
    # For each pair of states the least of the shortest rows to it.
    rows = {(0, 0): []}
    at = 0
    while at < len(found):
        state, other = found[at]
        for able in ables:
            for caller in a(state, able):
                row = rows[found[at]] + [(able, caller)]
                if caller not in b(other, able):
                    return row
                goal = (a.after(state, caller), b.after(other, caller))
                if goal not in rows:
                    rows[goal] = row
                    found.append(goal)
        at += 1
    return None


def able_tuples(callers):
    """The ascending list of all ascending tuples of callers, but the empty one."""
    found = [()]
    for caller in range(callers):
        found = found + [able + (caller,) for able in found]
    return sorted(found)[1:]
