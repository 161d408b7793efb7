"""Orders: rows in which the calls of a trace can have been answered, one after the other."""

from coretower.tuples import changed

EVERYONE = (0, 1, 2)


class SeenCall:
    """A call of a trace: its operation, its answer if it is done, and how many calls of each caller are before it."""

    def __init__(self, name, before):
        self.name = name
        self.before = before
        self.answer = None


class Orders:
    """All orders of a trace for a table.

    A caller's calls stand in its own order, so the calls that an order begins with are told by how many of each
    caller they are.
    """

    def __init__(self, table, trace):
        self._table = table
        # For each caller the list of its calls, and how many of them are done.
        self._calls = [[] for _ in EVERYONE]
        self._done = [0 for _ in EVERYONE]
        for caller, word, what in trace:
            if word == "call":
                self._calls[caller].append(SeenCall(what, tuple(self._done)))
            else:
                self._calls[caller][-1].answer = what
                self._done[caller] += 1
        self._known = {}

    def lengths(self):
        """The ascending list of the lengths that orders can have."""
        return list(range(sum(self._done), sum([len(calls) for calls in self._calls]) + 1))

    def least(self, length):
        """The least order of this length, or None."""
        return self._completed([], self._begin(), length)

    def next_after(self, order):
        """The next order of the same length, or None."""
        points = [self._begin()]
        for caller, _ in order:
            points.append(self._next_points(points[-1])[caller])
        for at in reversed(range(len(order))):
            steps = self._next_points(points[at])
            for caller in steps:
                if caller > order[at][0] and self._can_end(steps[caller], len(order) - at - 1):
                    begun = order[:at] + [(caller, points[at][0][caller])]
                    return self._completed(begun, steps[caller], len(order))
        return None

    def _begin(self):
        """How many calls of each caller stand in an order that has not begun, and the state of the table."""
        return (tuple([0 for _ in EVERYONE]), self._table.first)

    def _completed(self, begun, point, length):
        """The least order of this length that begins with these calls, which lead to the point; None without one."""
        if not self._can_end(point, length - len(begun)):
            return None
        order = list(begun)
        while len(order) < length:
            steps = self._next_points(point)
            left = length - len(order) - 1
            caller = [other for other in steps if self._can_end(steps[other], left)][0]
            order.append((caller, point[0][caller]))
            point = steps[caller]
        return order

    def _next_points(self, point):
        """A dict from the callers whose call can stand next, ascending, to the points behind it."""
        counts, state = point
        table = self._table
        steps = {}
        for caller in EVERYONE:
            if counts[caller] == len(self._calls[caller]):
                continue
            call = self._calls[caller][counts[caller]]
            if all([count >= least for count, least in zip(counts, call.before)]):
                answer, goal = table(call.name, state)
                if call.answer is None or call.answer == answer:
                    steps[caller] = (changed(counts, caller, counts[caller] + 1), goal)
        return steps

    def _can_end(self, point, left):
        """Whether so many calls more can complete an order."""
        if left == 0:
            return all([count >= done for count, done in zip(point[0], self._done)])
        if (point, left) not in self._known:
            goals = self._next_points(point)
            self._known[(point, left)] = any([self._can_end(goal, left - 1) for goal in goals.values()])
        return self._known[(point, left)]
