"""The parts of a standing that belong to one caller, each under a number of its own."""

from coretower.drafts import IDLE, Draft, Issuer
from coretower.scripts import Script
from coretower.ways import fences_of


class Part:
    """A caller's pending entries and its call; never changed."""

    def __init__(self, frozen, way, nodes):
        entries, gaps, held, call = frozen
        self.frozen = frozen
        self.entries = entries
        self.gaps = gaps
        self.held = held
        # The name of the operation of its call; "" if this is ready, None without an open call.
        self.name = call[0]
        self.answer = call[4]
        # Whether its call is ready, and its return is not held back.
        self.returns = self.name == "" and way.frees_return([entry[0] for entry in entries], gaps)
        # The entries that no older one holds back.
        self.first_ats = [at for at in range(len(entries)) if not waits_for_older(entries, gaps, at, way)]
        # The nodes that it holds, in a told order.
        self.nodes = nodes


class Parts:
    """The parts that come up, each but once, and what deeds make of them."""

    def __init__(self, build, way, joined):
        self._links = build.links()
        self._scripts = {name: Script(build[name], build, joined) for name in build.names()}
        self._way = way
        self._issuer = Issuer(self._scripts, way, joined)
        self._numbers = {}
        self._parts = []
        self._after = {}

    def part(self, number):
        """The part with a number."""
        return self._parts[number]

    def idle(self):
        """The number of the part of a caller at its beginning."""
        return self._number(IDLE)

    def _number(self, frozen):
        if frozen not in self._numbers:
            self._numbers[frozen] = len(self._parts)
            self._parts.append(Part(frozen, self._way, self._nodes_of(frozen)))
        return self._numbers[frozen]

    def opened(self, number, name):
        """The number of the part behind a call."""
        if (number, name) not in self._after:
            draft = Draft(self._parts[number].frozen, self._scripts)
            draft.start(name, self._scripts[name])
            self._issuer.issue(draft)
            self._after[(number, name)] = self._number(draft.told())
        return self._after[(number, name)]

    def closed(self, number):
        """The number of the part behind a return."""
        entries, gaps, held, _ = self._parts[number].frozen
        return self._number((entries, gaps, held, IDLE[3]))

    def settled(self, number, at, value):
        """The number of the part when an entry has been performed, which tells its local the value."""
        key = (number, at, value)
        if key not in self._after:
            draft = Draft(self._parts[number].frozen, self._scripts)
            draft.settle(at, value)
            self._issuer.issue(draft)
            self._after[key] = self._number(draft.told())
        return self._after[key]

    def _nodes_of(self, frozen):
        entries, _, _, (name, _, _, values, _) = frozen
        nodes = []
        for _, place, node, worths, _, _ in entries:
            nodes.append(node)
            if place in self._links:
                nodes.extend(worths)
        if values:
            nodes.extend([value for value, linked in zip(values, self._scripts[name].linked) if linked])
        return [node for node in nodes if node != 0]

    def renamed(self, number, names):
        """The number of the part with new names for its nodes."""
        part = self._parts[number]
        if not [node for node in part.nodes if names[node] != node]:
            return number
        entries, gaps, held, (name, turn, at, values, answer) = part.frozen
        rows = []
        for kind, place, node, worths, local, section in entries:
            if place in self._links:
                worths = tuple([names[worth] for worth in worths])
            rows.append((kind, place, names[node], worths, local, section))
        if values:
            linked = self._scripts[name].linked
            values = tuple([names[value] if is_link else value for value, is_link in zip(values, linked)])
        return self._number((tuple(rows), gaps, held, (name, turn, at, values, answer)))


def waits_for_older(entries, gaps, at, way):
    """Whether an entry is held back by an older one."""
    kind, place, node, _, _, _ = entries[at]
    for older in range(at):
        older_kind, older_place, older_node, _, _, _ = entries[older]
        if (place, node) == (older_place, older_node):
            return True
        if way.keeps_order(older_kind, kind, fences_of(gaps[older + 1:at + 1])):
            return True
    return False
