"""Crosses: builds that show that a recipe loses a pair."""

from coretower.books import READS
from coretower.builds import Build, Operation
from coretower.clients import once
from coretower.errors import BadPair
from coretower.recipes import RETURN, lost

ONE = "one"
OTHER = "other"
BASE = 4


class Cross:
    """A build and a client with a history that they have by a recipe, and not by its source."""

    def __init__(self, build, client, history):
        self.build = build
        self.client = client
        self.history = history


def cross(recipe, pair):
    """A cross for a lost pair of a recipe.

    The first operation makes the two accesses of the pair, on x and then on y, or returns instead of the second one.
    The other operation meets them in the opposite order: y behind the second access, and x ahead of the first one.
    """
    if pair not in lost(recipe):
        raise BadPair(pair)
    first, fence, second = pair
    steps = [access(first, "a", "x")]
    if fence is not None:
        steps.append(("fence", fence, None))
    if second == RETURN:
        others = [access("read", "d", "x")]
        history = [(0, "call", ONE), (0, "return", 0), (1, "call", OTHER), (1, "return", 0)]
    else:
        steps.append(access(second, "b", "y"))
        # No book lets anything pass a lock, which waits for all that is pending.
        others = [meeting_access(second, "c", "y"), ("lock", "m"), ("free", "m"), meeting_access(first, "d", "x")]
        # What is read ahead of a write to it is 0, and 1 behind it.
        answer = 2 if first in READS else 0
        other_answer = 0 if second in READS else 2
        history = [(0, "call", ONE), (1, "call", OTHER), (1, "return", other_answer), (0, "return", answer)]
    steps.append(("give", ("a", "a", "b"), None))
    others.append(("give", ("c", "c", "d"), None))
    build = Build(BASE, {"x": 0, "y": 0}, [Operation(ONE, steps), Operation(OTHER, others)])
    return Cross(build, [once(ONE), once(OTHER)], history)


def access(kind, local, cell):
    """An access of this kind, which writes 1 if it writes; only a read sets the local."""
    if kind in READS:
        return (kind, local, cell, None)
    if kind == "both":
        # Two swaps must not share a local, for the later one would wait for it.
        return ("swap", "s" if cell == "x" else "t", cell, (1,), None)
    return (kind, cell, (1,), None)


def meeting_access(kind, local, cell):
    """An access that can be seen to come ahead of one of this kind, or behind it."""
    return access("write" if kind in READS else "read", local, cell)
