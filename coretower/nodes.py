"""Where nodes come from: fresh ones, or those of a pool.

What is out is told by a store, a tuple that is not changed. It begins with a tuple of the fields of the nodes 1, 2
and so on.
"""


class FreshNodes:
    """Each take gives a new node. Behind the fields a store tells which nodes are out, and how many in all."""

    def __init__(self, build):
        self._limit = build.limit
        self._zeros = tuple([0 for _ in build.fields()])

    def begin(self):
        """The store at first."""
        return ((), (), 0)

    def are_fresh(self):
        """Whether only found nodes count, whatever their names."""
        return True

    def needs_found(self):
        """Whether a take goes by which nodes are found."""
        return False

    def can_take(self, store, found):
        """Whether a take is not held back."""
        return True

    def take(self, store, found):
        """The node that a take gives, 0 for none, and the new store."""
        fields, flags, many = store
        if many == self._limit:
            return 0, store
        return len(fields) + 1, (fields + (self._zeros,), flags + (True,), many + 1)

    def drop(self, store, node, callers):
        """The new store, for the callers with an open call."""
        fields, flags, many = store
        if not flags[node - 1]:
            return store
        return (fields, flags[:node - 1] + (False,) + flags[node:], many - 1)

    def returned(self, store, caller):
        """The new store behind the return of a caller."""
        return store

    def many_out(self, store):
        """How many nodes are out."""
        return store[2]

    def eligible(self, store, found):
        """The list of the nodes that can come back."""
        return []

    def renamed_store(self, store, found, names, linked):
        """The store of the found nodes by their new names; linked are the places of the fields that are links."""
        fields, flags, many = store
        rows = [renamed_fields(fields[node - 1], names, linked) for node in found]
        return (tuple(rows), tuple([flags[node - 1] for node in found]), many)


class PoolNodes:
    """Nodes come back. Behind the fields a store tells the row, and for each node in it who is waited for."""

    def __init__(self, build, pool):
        self.rule = pool.rule
        self.size = pool.size
        self._limit = build.limit
        self._zeros = tuple([0 for _ in build.fields()])

    def begin(self):
        """The store at first."""
        row = tuple(range(1, self.size + 1))
        return (tuple([self._zeros for _ in row]), row, tuple([() for _ in row]))

    def are_fresh(self):
        """Whether only found nodes count, whatever their names."""
        return False

    def needs_found(self):
        """Whether a take goes by which nodes are found."""
        return self.rule == "unheld"

    def can_take(self, store, found):
        """Whether a take is not held back."""
        return self.many_out(store) == self._limit or len(self.eligible(store, found)) > 0

    def take(self, store, found):
        """The node that a take gives, 0 for none, and the new store."""
        if self.many_out(store) == self._limit:
            return 0, store
        fields, row, waits = store
        node = self.eligible(store, found)[0]
        at = row.index(node)
        fields = fields[:node - 1] + (self._zeros,) + fields[node:]
        return node, (fields, row[:at] + row[at + 1:], waits[:at] + waits[at + 1:])

    def drop(self, store, node, callers):
        """The new store, for the callers with an open call."""
        fields, row, waits = store
        if node in row:
            return store
        return (fields, row + (node,), waits + (callers if self.rule == "quiet" else (),))

    def returned(self, store, caller):
        """The new store behind the return of a caller."""
        fields, row, waits = store
        return (fields, row, tuple([tuple([other for other in wait if other != caller]) for wait in waits]))

    def many_out(self, store):
        """How many nodes are out."""
        return self.size - len(store[1])

    def eligible(self, store, found):
        """The list of the nodes that can come back, as they stand in the row."""
        _, row, waits = store
        if self.rule == "last":
            return list(row[-1:])
        if self.rule == "first":
            return list(row[:1])
        if self.rule == "quiet":
            return [node for node, wait in zip(row, waits) if not wait]
        return [node for node in row if node not in found]


def renamed_fields(row, names, linked):
    """The fields of a node, with new names for the nodes that they hold."""
    return tuple([names[worth] if at in linked else worth for at, worth in enumerate(row)])


def field_of(store, node, at):
    """What a field of a node holds."""
    return store[0][node - 1][at]


def with_field(store, node, at, worth):
    """The store in which a field of a node holds this."""
    fields = store[0]
    row = fields[node - 1]
    row = row[:at] + (worth,) + row[at + 1:]
    return (fields[:node - 1] + (row,) + fields[node:],) + store[1:]
