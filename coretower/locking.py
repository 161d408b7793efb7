"""Locking: which locks may be taken while which are held."""

from coretower.errors import BadEntry, BadName, OtherLocks, TooLarge
from coretower.kinds import is_name

MOST_LOCKS = 3


class Rule:
    """Locks in an order, and entries: what is held, as a tuple in this order, and a lock that may be taken next."""

    def __init__(self, locks, entries=()):
        if not 1 <= len(locks) <= MOST_LOCKS:
            raise TooLarge(MOST_LOCKS)
        for at, name in enumerate(locks):
            if not is_name(name) or name in locks[:at]:
                raise BadName(name)
        self._locks = list(locks)
        possible = all_entries(locks)
        for entry in entries:
            if entry not in possible:
                raise BadEntry(entry)
        self._entries = [entry for entry in possible if entry in entries]

    def locks(self):
        """The list of the locks, in their order."""
        return list(self._locks)

    def __contains__(self, x):
        return x in self._entries

    def __len__(self):
        return len(self._entries)

    def __iter__(self):
        return iter(self._entries)

    def __getitem__(self, at):
        if at not in all_held(self._locks):
            raise BadEntry(at)
        return [goal for held, goal in self._entries if held == at]

    def __and__(self, other):
        check_same_locks(self, other)
        return Rule(tuple(self._locks), [entry for entry in self._entries if entry in other._entries])

    def __or__(self, other):
        check_same_locks(self, other)
        return Rule(tuple(self._locks), self._entries + other._entries)

    def __sub__(self, other):
        check_same_locks(self, other)
        return Rule(tuple(self._locks), [entry for entry in self._entries if entry not in other._entries])

    def keeps(self, steps):
        """Whether a list of any values is a program that keeps the rule."""
        held = ()
        for step in steps:
            if not is_lock_step(step):
                return False
            word, name = step
            if word == "lock" and (held, name) not in self._entries:
                return False
            if word == "free" and name not in held:
                return False
            held = held_after(held, name, self._locks)
        return held == ()

    @staticmethod
    def every(locks):
        """The rule with all entries."""
        check = Rule(locks)
        return Rule(locks, all_entries(check.locks()))

    @staticmethod
    def rising(locks):
        """The rule by which a lock may be taken while no held one stands behind it in the order."""
        every = Rule.every(locks)
        return Rule(locks, [(held, name) for held, name in every if not names_behind(name, held, locks)])

    @staticmethod
    def gate(locks):
        """The rule by which a further lock may be taken only while the first one of the order is held."""
        every = Rule.every(locks)
        return Rule(locks, [(held, name) for held, name in every if not held or locks[0] in held])


def all_held(locks):
    """All tuples of different locks in their order, the shorter ones first, then by the places of the locks."""
    found = [()]
    at = 0
    while at < len(found):
        held = found[at]
        found.extend([held + (name,) for name in locks if held == names_ahead(name, held, locks)])
        at += 1
    return found


def all_entries(locks):
    """All entries, in their order."""
    return [(held, name) for held in all_held(locks) for name in locks if name not in held]


def names_ahead(name, held, locks):
    """Those of the held locks that stand ahead of this one in the order."""
    before = list(locks)[:list(locks).index(name)]
    return tuple([other for other in held if other in before])


def names_behind(name, held, locks):
    """Those of the held locks that stand behind this one in the order."""
    behind = list(locks)[list(locks).index(name) + 1:]
    return tuple([other for other in held if other in behind])


def check_same_locks(a, b):
    """Raise OtherLocks unless two rules have the same locks in the same order."""
    if a.locks() != b.locks():
        raise OtherLocks()


def is_lock_step(step):
    """Whether this, any value, is a lock or free step, whatever it names."""
    return isinstance(step, tuple) and len(step) == 2 and step[0] in ("lock", "free")


def held_after(held, name, locks):
    """What is held when a lock has been taken, or freed if it was held."""
    if name in held:
        return tuple([other for other in held if other != name])
    return tuple([other for other in locks if other in held or other == name])


def reachable(rule):
    """The list of all held tuples that programs which keep the rule come to."""
    found = {(): True}
    waiting = [()]
    while waiting:
        held = waiting.pop()
        goals = [held_after(held, name, rule.locks()) for name in rule[held] + list(held)]
        waiting.extend([goal for goal in goals if goal not in found])
        for goal in goals:
            found[goal] = True
    return [held for held in all_held(rule.locks()) if held in found]


def within(a, b):
    """Whether every program that keeps a keeps b."""
    check_same_locks(a, b)
    return all([(held, name) in b for held in reachable(a) for name in a[held]])
