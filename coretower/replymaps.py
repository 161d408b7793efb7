"""The replies of a web to all deeds, told by nodes that many standings share."""

from coretower.circles import parts_of
from coretower.kinds import is_visible


class ReplyMap:
    """The replies of a standing to a deed are those of a node.

    The replies of a node are its own ones, `own[node]`, and those of the nodes `below[node]`, which have
    smaller numbers. So long rows and rings of hidden moves are gone through once, not once for each standing.
    """

    def __init__(self, web):
        hidden = [web.hidden(at) for at in range(len(web))]
        self.own = []
        self.below = []
        self._parts = parts_of(hidden)
        many = max(self._parts) + 1
        self._after = [{} for _ in range(many)]
        self._before = [{} for _ in range(many)]
        for at, row in enumerate(hidden):
            for goal in row:
                self._link(self._parts[at], self._parts[goal])
        self._makers = {}
        for at in range(len(web)):
            for deed, goal in web.moves(at):
                if is_visible(deed):
                    self._makers.setdefault(deed, []).append((self._parts[at], goal))
        self._nodes = {}

    def _link(self, part, after):
        if part != after:
            self._after[part][after] = True
            self._before[after][part] = True

    def node(self, at, deed):
        """The node of a standing and a visible deed; None if there is no reply."""
        if deed not in self._makers:
            return None
        if deed not in self._nodes:
            self._nodes[deed] = self._made(deed)
        return self._nodes[deed].get(self._parts[at])

    def _made(self, deed):
        """Make the nodes of a deed; returns a dict from the parts with a reply to them."""
        goals = {}
        for part, goal in self._makers[deed]:
            goals.setdefault(part, []).append(goal)
        nodes = {}
        # What lies after a part has a greater number, so its node is made already.
        for part in sorted(self._leading(list(goals)), reverse=True):
            below = sorted({nodes[after] for after in self._after[part] if after in nodes})
            own = sorted(set(goals.get(part, [])))
            if own or len(below) > 1:
                nodes[part] = self._new(own, below)
            else:
                nodes[part] = below[0]
        return nodes

    def _new(self, own, below):
        self.own.append(own)
        self.below.append(below)
        return len(self.own) - 1

    def _leading(self, parts):
        """The given parts and all parts from which hidden moves lead to one of them."""
        seen = {}
        waiting = list(parts)
        while waiting:
            part = waiting.pop()
            if part not in seen:
                seen[part] = True
                waiting.extend(list(self._before[part]))
        return list(seen)
