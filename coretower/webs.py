"""Webs: standings, and the deeds that lead from one to another."""

from coretower.errors import BadRun, BadWeb, NoStanding, TooLarge
from coretower.kinds import is_below, is_deed, is_visible

MOST_STANDINGS = 4000


class Web:
    """A web of standings, numbered from 0, with the moves of each."""

    def __init__(self, rows):
        if not 1 <= len(rows) <= MOST_STANDINGS:
            raise TooLarge(MOST_STANDINGS)
        for at, row in enumerate(rows):
            if not are_moves(row, len(rows)):
                raise BadWeb(at)
        self._rows = [sorted(list(row)) for row in rows]
        self._goals = [{deed: goal for deed, goal in row} for row in self._rows]
        self._hidden = [[goal for deed, goal in row if not is_visible(deed)] for row in self._rows]

    def __len__(self):
        return len(self._rows)

    def __contains__(self, x):
        return self.lacks(x) is None

    def moves(self, at):
        """The ascending list of the moves of a standing."""
        self.check(at)
        return list(self._rows[at])

    def hidden(self, at):
        """The list of the standings to which the hidden moves of a standing lead."""
        return list(self._hidden[at])

    def goal(self, at, deed):
        """The standing to which a deed, any value, leads from a standing; None if it has no such move."""
        if not is_deed(deed):
            return None
        return self._goals[at].get(deed)

    def replies(self, at, deed):
        """The ascending list of the replies of a standing to a visible deed."""
        self.check(at)
        return self.joint_replies([at], deed)

    def check(self, at):
        """Raise NoStanding unless this, any value, is the number of a standing."""
        if not is_below(at, len(self._rows)):
            raise NoStanding(at)

    def joint_replies(self, stands, deed):
        """The ascending list of the replies of several standings to a deed, any value."""
        if not is_deed(deed) or not is_visible(deed):
            return []
        rows = [self._goals[at] for at in self.reached(stands)]
        return sorted({row[deed] for row in rows if deed in row})

    def reached(self, stands):
        """The standings that are reached from these by hidden moves, any number or none."""
        seen = {}
        waiting = list(stands)
        while waiting:
            at = waiting.pop()
            if at not in seen:
                seen[at] = True
                waiting.extend(self._hidden[at])
        return list(seen)

    def offers(self, stands):
        """A dict from the visible deeds to which standings have replies to the ascending lists of these."""
        goals = {}
        for at in self.reached(stands):
            for deed, goal in self._rows[at]:
                if is_visible(deed):
                    row = goals.setdefault(deed, {})
                    row[goal] = True
        return {deed: sorted(goals[deed]) for deed in sorted(goals)}

    def go(self, run):
        """The standing to which a run leads."""
        at = 0
        for index, deed in enumerate(run):
            at = self.goal(at, deed)
            if at is None:
                raise BadRun(index)
        return at

    def lacks(self, history):
        """None if the web has the history; otherwise the index of the first deed with which it has not."""
        stands = [0]
        for index, deed in enumerate(history):
            stands = self.joint_replies(stands, deed)
            if not stands:
                return index
        return None

    def histories(self, most):
        """All histories of at most so many deeds, by length, those of equal length ascending."""
        level = []
        if most >= 0:
            yield []
            level.append(([], [0]))
        length = 0
        while level and length < most:
            length += 1
            longer = []
            for history, stands in list(level):
                offers = self.offers(stands)
                for deed in offers:
                    yield history + [deed]
                    longer.append((history + [deed], offers[deed]))
            level = longer

    def same_moves(self, other):
        """Whether another web has the same moves."""
        return self._rows == other._rows


def are_moves(row, many):
    """Whether a list of any values is a list of moves, one for each deed, in a web of so many standings."""
    deeds = {}
    for move in row:
        if not isinstance(move, tuple) or len(move) != 2:
            return False
        deed, goal = move
        if not is_deed(deed) or not is_below(goal, many) or deed in deeds:
            return False
        deeds[deed] = True
    return True


def shown(run):
    """The list of the visible deeds of a run."""
    return [deed for deed in run if is_visible(deed)]
