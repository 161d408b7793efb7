"""Builds: what makes an object of small steps on shared cells and nodes."""

from coretower.errors import BadName, BadNumber, BadStep, NoCell, NoOperation, SameName, TooLarge
from coretower.kinds import is_below, is_name, is_number
from coretower.linking import uses_links_well
from coretower.steps import is_step, lock_fault, parts_of_role, place_name, sections_of

MOST_STEPS = 80
MOST_TURNS = 4
MOST_CELLS = 6
MOST_FIELDS = 2
MOST_OPERATIONS = 6
MOST_OUT = 3


class Operation:
    """A name, the steps of a call, the turns that it may take, and what it answers if none gives an answer."""

    def __init__(self, name, steps, *, turns=1, otherwise=0):
        if not is_name(name):
            raise BadName(name)
        if not steps:
            raise BadStep(name, 0)
        if len(steps) > MOST_STEPS:
            raise BadStep(name, MOST_STEPS)
        for at, step in enumerate(steps):
            if not is_step(step):
                raise BadStep(name, at)
        fault = lock_fault(steps)
        if fault is not None:
            raise BadStep(name, fault)
        if not is_below(turns, MOST_TURNS + 1):
            raise BadNumber(turns)
        if not is_number(otherwise):
            raise BadNumber(otherwise)
        self.name = name
        self.turns = turns
        self.otherwise = otherwise
        self._steps = list(steps)

    def steps(self):
        """The list of the steps."""
        return list(self._steps)

    def sections(self):
        """The list of the pairs of the first lock step and the last free step of each section."""
        return sections_of(self._steps)


class Build:
    """A base, cells and fields of nodes, links, a limit of nodes, and operations."""

    def __init__(self, base, cells, operations, *, fields=(), links=(), limit=0):
        if not is_number(base) or not 2 <= base <= 5:
            raise BadNumber(base)
        check_cells(base, cells, links)
        check_fields(fields, cells)
        for name in links:
            if not is_name(name):
                raise BadName(name)
        if not is_below(limit, MOST_OUT + 1):
            raise BadNumber(limit)
        check_operations(operations)
        check_places(operations, list(cells), list(fields))
        check_links(operations, links)
        self.base = base
        self.limit = limit
        self._cells = dict(cells)
        self._fields = list(fields)
        self._links = sorted(set(links))
        self._operations = {operation.name: operation for operation in operations}
        self._names = list(self._operations)

    def names(self):
        """The list of the operation names."""
        return list(self._names)

    def cells(self):
        """The dict from the cells to their first numbers."""
        return dict(self._cells)

    def fields(self):
        """The list of the fields."""
        return list(self._fields)

    def links(self):
        """The ascending list of the links."""
        return list(self._links)

    def locks(self):
        """The list of the locks, in the order in which steps first name them."""
        found = {}
        for name in self._names:
            for step in self._operations[name].steps():
                if step[0] == "lock":
                    found[step[1]] = True
        return list(found)

    def __getitem__(self, at):
        if not is_name(at) or at not in self._operations:
            raise NoOperation(at)
        return self._operations[at]

    def __iter__(self):
        return iter(self._names)

    def __add__(self, other):
        if self.base != other.base:
            raise BadNumber(other.base)
        for build in (self, other):
            for name in build.links() + build.fields():
                raise SameName(name)
        check_apart(list(self._cells), list(other._cells))
        check_apart(self.locks(), other.locks())
        check_apart(self._names, other._names)
        operations = [self._operations[name] for name in self._names]
        operations = operations + [other._operations[name] for name in other._names]
        return Build(self.base, {**self._cells, **other._cells}, operations)


def check_apart(names, others):
    """Raise SameName for the first name that stands among the others as well."""
    for name in names:
        if name in others:
            raise SameName(name)


def check_cells(base, cells, links):
    """Raise for the first cell, any values, that is wrong."""
    if len(cells) > MOST_CELLS:
        raise TooLarge(MOST_CELLS)
    for name in cells:
        if not is_name(name):
            raise BadName(name)
        number = cells[name]
        if not is_below(number, base) or (name in links and number != 0):
            raise BadNumber(number)


def check_fields(fields, cells):
    """Raise for the first field, any values, that is wrong."""
    if len(fields) > MOST_FIELDS:
        raise TooLarge(MOST_FIELDS)
    for at, name in enumerate(fields):
        if not is_name(name) or name in cells or name in fields[:at]:
            raise BadName(name)


def check_operations(operations):
    """Raise unless there are 1 to 6 operations with different names."""
    if not 1 <= len(operations) <= MOST_OPERATIONS:
        raise TooLarge(MOST_OPERATIONS)
    names = []
    for operation in operations:
        if operation.name in names:
            raise SameName(operation.name)
        names.append(operation.name)


def check_places(operations, cells, fields):
    """Raise for the first step that names a cell or field that there is not."""
    for operation in operations:
        for at, step in enumerate(operation.steps()):
            for place in parts_of_role(step, "place"):
                if place_name(place) not in (fields if isinstance(place, tuple) else cells):
                    raise BadStep(operation.name, at) from NoCell(place_name(place))


def check_links(operations, links):
    """Raise for the first step that uses links as it must not."""
    for operation in operations:
        for at, step in enumerate(operation.steps()):
            if not uses_links_well(step, links):
                raise BadStep(operation.name, at)
