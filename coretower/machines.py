"""Machines: the states that overlapping calls come to, and the deeds that lead from one to another."""

from coretower.books import KINDS, READS, WRITES
from coretower.clients import menu_after, menu_deeds
from coretower.nodes import field_of, with_field
from coretower.parts import Parts
from coretower.tuples import changed


class Machine:
    """A build and its callers.

    A state is a tuple of what the cells hold, the next menus, the numbers of the callers' parts, the store of the
    nodes and the state of the chooser. Fresh nodes go by numbers from 1 on, given in the order in which they are
    found, so that states agree as point 25 tells.
    """

    def __init__(self, build, client, way, nodes, turns, joined):
        self.parts = Parts(build, way, joined)
        self._client = list(client)
        self._callers = list(range(len(client)))
        self._deeds = menu_deeds(client)
        self._nodes = nodes
        self._turns = turns
        self._first_cells = tuple(list(build.cells().values()))
        self._cells = {name: at for at, name in enumerate(build.cells())}
        self._fields = {name: at for at, name in enumerate(build.fields())}
        self._linked_cells = [at for name, at in self._cells.items() if name in build.links()]
        self._linked_fields = [at for name, at in self._fields.items() if name in build.links()]
        # Nodes of a pool keep their names, and without links no node is ever taken.
        self._renames = nodes.are_fresh() and build.limit > 0 and len(build.links()) > 0

    def begin(self):
        """The first state."""
        zeros = tuple([0 for _ in self._callers])
        idle = self.parts.idle()
        return (self._first_cells, zeros, tuple([idle for _ in self._callers]), self._nodes.begin(), 0)

    def able_deeds(self, state):
        """The ascending list of all deeds of a state."""
        rows = [self._deeds_of(state, caller) for caller in self._callers]
        able = tuple([caller for caller in self._callers if rows[caller]])
        if self._turns is not None and able:
            able = self._turns.let_by(state[4], able)
        return [deed for caller in able for deed in rows[caller]]

    def _deeds_of(self, state, caller):
        """The ascending list of what a caller could do without a chooser."""
        part = self.parts.part(state[2][caller])
        deeds = []
        if part.name is None:
            deeds.extend(self._deeds[caller][state[1][caller]])
        elif part.returns:
            deeds.append((caller, "return", part.answer))
        for at in part.first_ats:
            if not self._is_held_back(state, caller, part.entries[at]):
                deeds.append((caller, "step", at))
        return deeds

    def _is_held_back(self, state, caller, entry):
        """Whether an entry is held back by what other callers do."""
        if entry[0] == "lock":
            others = [self.parts.part(number) for at, number in enumerate(state[2]) if at != caller]
            return any([entry[1] in part.held for part in others])
        if entry[0] == "take":
            return not self._nodes.can_take(state[3], self._found_for_take(state))
        return False

    def moved(self, state, deed):
        """The state that a deed leads to."""
        cells, menus, parts, store, mark = state
        caller, word, what = deed
        if word == "call":
            menus = changed(menus, caller, menu_after(self._client[caller], menus[caller]))
            parts = changed(parts, caller, self.parts.opened(parts[caller], what))
        elif word == "return":
            store = self._nodes.returned(store, caller)
            parts = changed(parts, caller, self.parts.closed(parts[caller]))
        else:
            cells, menus, parts, store, mark = self._stepped(state, caller, what)
        if self._turns is not None:
            mark = self._turns.after(mark, caller)
        return (cells, menus, parts, store, mark)

    def _stepped(self, state, caller, at):
        """The state when an entry has been performed, and those behind it that are joined with it."""
        section = self.parts.part(state[2][caller]).entries[at][5]
        state = self._performed(state, caller, at)
        while section is not None and self._goes_on(state, caller, section):
            state = self._performed(state, caller, 0)
        return state

    def _goes_on(self, state, caller, section):
        entries = self.parts.part(state[2][caller]).entries
        return len(entries) > 0 and entries[0][5] == section

    def _performed(self, state, caller, at):
        cells, menus, parts, store, mark = state
        entry = self.parts.part(parts[caller]).entries[at]
        value = None
        if entry[0] in KINDS:
            cells, store, value = self._accessed(cells, store, entry)
        elif entry[0] == "take":
            value, store = self._nodes.take(store, self._found_for_take(state))
        elif entry[0] == "drop":
            store = self._nodes.drop(store, entry[2], self._open_callers(parts))
        parts = changed(parts, caller, self.parts.settled(parts[caller], at, value))
        state = (cells, menus, parts, store, mark)
        return self._tidied(state) if self._renames else state

    def _accessed(self, cells, store, entry):
        """What cells and nodes hold behind an access, and what it tells its local."""
        kind, place, node, worths, _, _ = entry
        if node == 0:
            at = self._cells[place]
            worth, value = outcome(kind, worths, cells[at])
            return changed(cells, at, worth), store, value
        at = self._fields[place]
        worth, value = outcome(kind, worths, field_of(store, node, at))
        return cells, with_field(store, node, at, worth), value

    def _open_callers(self, parts):
        return tuple([caller for caller in self._callers if self.parts.part(parts[caller]).name is not None])

    def found(self, state):
        """The list of the found nodes, in an order that does not go by their names."""
        cells, _, parts, store, _ = state
        held = [cells[at] for at in self._linked_cells]
        for number in parts:
            held.extend(self.parts.part(number).nodes)
        found = {0: True}
        at = 0
        while at < len(held):
            if held[at] not in found:
                found[held[at]] = True
                held.extend([field_of(store, held[at], field) for field in self._linked_fields])
            at += 1
        return list(found)[1:]

    def _found_for_take(self, state):
        return self.found(state) if self._nodes.needs_found() else []

    def _tidied(self, state):
        """The state without the fresh nodes that are not found, and with new names for the others."""
        cells, menus, parts, store, mark = state
        found = self.found(state)
        if found == list(range(1, len(store[0]) + 1)):
            return state
        names = {0: 0}
        for node in found:
            names[node] = len(names)
        cells = tuple([names[worth] if at in self._linked_cells else worth for at, worth in enumerate(cells)])
        parts = tuple([self.parts.renamed(number, names) for number in parts])
        return (cells, menus, parts, self._nodes.renamed_store(store, found, names, self._linked_fields), mark)


def outcome(kind, worths, old):
    """What a place that held old holds behind an access, and what the access tells its local."""
    if kind in READS:
        return old, old
    if kind in WRITES:
        return worths[0], None
    if len(worths) == 1:
        return worths[0], old
    return (worths[1], 1) if old == worths[0] else (old, 0)
