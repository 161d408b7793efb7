"""Tables: what an object answers to its operations, state by state."""

from coretower.errors import BadNumber, BadTable, NoOperation, SameName, TooLarge
from coretower.kinds import is_below, is_name, is_number

MOST_OPERATIONS = 6
MOST_STATES = 100


class Table:
    """For each operation and state a pair: the answer and the next state."""

    def __init__(self, rows, first=0):
        check_rows(rows)
        self.size = len(list(rows.values())[0])
        if not is_below(first, self.size):
            raise BadTable("")
        self.first = first
        self._rows = {name: list(rows[name]) for name in rows}

    def names(self):
        """The list of the operation names."""
        return list(self._rows)

    def __call__(self, name, state):
        self.check_name(name)
        if not is_below(state, self.size):
            raise BadNumber(state)
        return self._rows[name][state]

    def answers(self, calls):
        """The list of the answers of a row of calls."""
        for name in calls:
            self.check_name(name)
        state = self.first
        found = []
        for name in calls:
            answer, state = self._rows[name][state]
            found.append(answer)
        return found

    def only(self, names):
        """A new table with just the named operations, in this table's order."""
        for name in names:
            self.check_name(name)
        return Table({name: self._rows[name] for name in self._rows if name in names}, self.first)

    def check_name(self, name):
        """Raise NoOperation unless this, any value, is the name of an operation."""
        if not is_name(name) or name not in self._rows:
            raise NoOperation(name)

    def __add__(self, other):
        for name in self._rows:
            if name in other._rows:
                raise SameName(name)
        if len(self._rows) + len(other._rows) > MOST_OPERATIONS:
            raise TooLarge(MOST_OPERATIONS)
        if self.size * other.size > MOST_STATES:
            raise TooLarge(MOST_STATES)
        states = [(a, b) for a in range(self.size) for b in range(other.size)]
        rows = {}
        for name in self._rows:
            row = self._rows[name]
            rows[name] = [(row[a][0], row[a][1] * other.size + b) for a, b in states]
        for name in other._rows:
            row = other._rows[name]
            rows[name] = [(row[b][0], a * other.size + row[b][1]) for a, b in states]
        return Table(rows, self.first * other.size + other.first)


def check_rows(rows):
    """Raise BadTable for the first operation of a dict of any values that is wrong."""
    if not 1 <= len(rows) <= MOST_OPERATIONS:
        raise BadTable("")
    first_row = list(rows.values())[0]
    for name in rows:
        if not is_name(name) or not is_row(rows[name]) or len(rows[name]) != len(first_row):
            raise BadTable(name)


def is_row(row):
    """Whether this, any value, is a list of a pair for each of 1 to 100 states."""
    if not isinstance(row, list) or not 1 <= len(row) <= MOST_STATES:
        return False
    return all([is_pair(pair, len(row)) for pair in row])


def is_pair(pair, size):
    """Whether this, any value, is a pair of an answer and a state."""
    if not isinstance(pair, tuple) or len(pair) != 2:
        return False
    answer, state = pair
    return is_number(answer) and is_below(state, size)
