"""Papers: sets of pairs of standings that show that one web answers as another one does."""

from coretower.errors import NoStanding, NotMet, OtherWeb
from coretower.kinds import is_below, is_deed, is_visible
from coretower.replymaps import ReplyMap


class Paper:
    """A set of pairs of standings of the webs low and high, paper or not."""

    def __init__(self, low, high, pairs):
        check_pairs(low, high, pairs)
        self.low = low
        self.high = high
        self._pairs = sorted({(at, high_at) for at, high_at in pairs})
        self._has = {pair: True for pair in self._pairs}

    def __len__(self):
        return len(self._pairs)

    def __contains__(self, x):
        if not isinstance(x, tuple) or len(x) != 2:
            return False
        at, high_at = x
        return is_below(at, len(self.low)) and is_below(high_at, len(self.high)) and x in self._has

    def __iter__(self):
        return iter(self._pairs)

    def __or__(self, other):
        if not (self.low.same_moves(other.low) and self.high.same_moves(other.high)):
            raise OtherWeb()
        return Paper(self.low, self.high, self._pairs + other._pairs)

    def fault(self):
        """None if this is a paper; otherwise the first pair with its first move that is not met."""
        if (0, 0) not in self._has:
            return ((0, 0), None)
        least = LeastReplies(self.high, self._has)
        for at, high_at in self._pairs:
            for deed, goal in self.low.moves(at):
                if least.next_pair(deed, goal, high_at) is None:
                    return ((at, high_at), deed)
        return None

    def reply(self, pair, deed):
        """The least reply of high with which the pair meets a visible move of low."""
        if pair in self and is_deed(deed) and is_visible(deed):
            at, high_at = pair
            goal = self.low.goal(at, deed)
            if goal is not None:
                for reply in self.high.replies(high_at, deed):
                    if (goal, reply) in self._has:
                        return reply
        raise NotMet(pair, deed)

    def then(self, other):
        """The Paper of the pairs that lead through a common standing from this low to the high of other."""
        if not self.high.same_moves(other.low):
            raise OtherWeb()
        behind = {}
        for middle, high_at in other:
            behind.setdefault(middle, []).append(high_at)
        goals = {}
        for at, middle in self._pairs:
            row = goals.setdefault(at, {})
            for high_at in behind.get(middle, []):
                row[high_at] = True
        pairs = [(at, high_at) for at, row in goals.items() for high_at in row]
        return Paper(self.low, other.high, pairs)

    def trimmed(self):
        """The Paper of the pairs that are still needed if each visible move is met by its least reply alone."""
        fault = self.fault()
        if fault is not None:
            pair, deed = fault
            raise NotMet(pair, deed)
        least = LeastReplies(self.high, self._has)
        found = {(0, 0): True}
        waiting = [(0, 0)]
        while waiting:
            at, high_at = waiting.pop()
            for deed, goal in self.low.moves(at):
                pair = least.next_pair(deed, goal, high_at)
                if pair not in found:
                    found[pair] = True
                    waiting.append(pair)
        return Paper(self.low, self.high, list(found))

    @staticmethod
    def same(web):
        """The Paper of all pairs (x, y) of a web with itself such that hidden moves, or none, lead from y to x."""
        pairs = [(at, high_at) for high_at in range(len(web)) for at in web.reached([high_at])]
        return Paper(web, web, pairs)


class LeastReplies:
    """The least replies of a web that a set of pairs allows."""

    def __init__(self, high, has):
        self._has = has
        self._replies = ReplyMap(high)
        self._least = {}

    def next_pair(self, deed, goal, high_at):
        """The pair to which a move of low to the goal leads, by the least reply; None if the move is not met."""
        if not is_visible(deed):
            return (goal, high_at) if (goal, high_at) in self._has else None
        node = self._replies.node(high_at, deed)
        if node is None:
            return None
        # The nodes below a node have smaller numbers, so theirs are known when it is its turn.
        for lower in sorted(self._unknown(goal, node)):
            self._least[(goal, lower)] = self._best(goal, lower)
        reply = self._least[(goal, node)]
        return None if reply is None else (goal, reply)

    def _unknown(self, goal, node):
        """The node and all below it whose least reply for the goal is not known yet."""
        seen = {}
        waiting = [node]
        while waiting:
            lower = waiting.pop()
            if lower not in seen and (goal, lower) not in self._least:
                seen[lower] = True
                waiting.extend(self._replies.below[lower])
        return list(seen)

    def _best(self, goal, node):
        own = [reply for reply in self._replies.own[node] if (goal, reply) in self._has]
        below = [self._least[(goal, lower)] for lower in self._replies.below[node]]
        return min(own + [reply for reply in below if reply is not None], default=None)


def check_pairs(low, high, pairs):
    """Raise NoStanding for the first item of these pairs, any values, that is no standing of its web."""
    for at, high_at in pairs:
        if not is_below(at, len(low)):
            raise NoStanding(at)
        if not is_below(high_at, len(high)):
            raise NoStanding(high_at)


def lockstep(low, high):
    """The Paper of the pairs that runs lead to, high waiting at the last visible deed; None if high lacks a run."""
    found = {(0, 0, 0): True}
    waiting = [(0, 0, 0)]
    while waiting:
        at, high_at, shown_at = waiting.pop()
        for deed, goal in low.moves(at):
            high_goal = high.goal(high_at, deed)
            if high_goal is None:
                return None
            state = (goal, high_goal, high_goal if is_visible(deed) else shown_at)
            if state not in found:
                found[state] = True
                waiting.append(state)
    return Paper(low, high, [(at, shown_at) for at, high_at, shown_at in found])
