"""Pools: nodes that come back."""

from coretower.errors import BadName, BadPool
from coretower.kinds import is_below

RULES = ("last", "first", "quiet", "unheld")
MOST_NODES = 4


class Pool:
    """Which of the nodes that are not out a take may get, and how many nodes there are."""

    def __init__(self, rule, size):
        if rule not in RULES:
            raise BadName(rule)
        if not is_below(size, MOST_NODES + 1) or size == 0:
            raise BadPool(size)
        self.rule = rule
        self.size = size
