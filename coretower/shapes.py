"""Shapes: tables of small counters, each operation in a class of its own."""

from coretower.errors import BadNumber
from coretower.kinds import is_number
from coretower.tables import Table


class Shape:
    """So many states, without an operation; the classes below add theirs behind those of their bases."""

    def __init__(self, size):
        if not is_number(size) or size == 0:
            raise BadNumber(size)
        self.size = size

    def rows(self):
        """A new dict of rows for a Table."""
        return {}


class Looks(Shape):
    """The operation look answers the state and keeps it."""

    def rows(self):
        """The rows of the bases, then that of look."""
        rows = super().rows()
        rows["look"] = [(state, state) for state in range(self.size)]
        return rows


class Ups(Shape):
    """The operation up answers the state and goes to the next one, from the last one to 0."""

    def rows(self):
        """The rows of the bases, then that of up."""
        rows = super().rows()
        rows["up"] = [(state, (state + 1) % self.size) for state in range(self.size)]
        return rows


class Tops(Shape):
    """The operation top answers 1 in the last state and 0 in the others, and goes to the last one."""

    def rows(self):
        """The rows of the bases, then that of top."""
        rows = super().rows()
        last = self.size - 1
        rows["top"] = [(1 if state == last else 0, last) for state in range(self.size)]
        return rows


class Clears(Shape):
    """The operation clear answers 0 and goes to 0."""

    def rows(self):
        """The rows of the bases, then that of clear."""
        rows = super().rows()
        rows["clear"] = [(0, 0) for _ in range(self.size)]
        return rows


class Ticket(Looks, Ups):
    """A counter that hands out its states."""

    def rows(self):
        """The rows of up and look."""
        return super().rows()


class Latch(Tops, Clears):
    """A flag that is set and cleared."""

    def rows(self):
        """The rows of clear and top."""
        return super().rows()


class Meter(Looks, Ups, Clears):
    """A counter that is cleared, too."""

    def rows(self):
        """The rows of clear, up and look."""
        return super().rows()


def table_of(shape):
    """The Table of a shape, with the first state 0."""
    return Table(shape.rows(), 0)
