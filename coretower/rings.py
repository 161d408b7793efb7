"""Rings: programs that wait for each other's locks for ever."""

from coretower.builds import Build, Operation
from coretower.clients import once
from coretower.errors import BadNumber
from coretower.kinds import is_below
from coretower.locking import Rule, held_after

PROGRAM_NAMES = ("pa", "pb", "pc")
MOST_STRIKES = 2


class Ring:
    """Programs that have made some steps, and the lock that each wants: it is held by the next one in the circle."""

    def __init__(self, locks, programs, wants, order):
        self._locks = list(locks)
        self._programs = [list(steps) for steps in programs]
        self._wants = list(wants)
        self._order = list(order)

    @property
    def programs(self):
        """The list of the lists of the steps that the programs have made."""
        return [list(steps) for steps in self._programs]

    @property
    def wants(self):
        """The list of the locks that the programs want."""
        return list(self._wants)

    @property
    def order(self):
        """The list of the programs, by their numbers, in whose order the steps can be made."""
        return list(self._order)

    def as_build(self):
        """A build whose operations make the steps of the programs, and then take what they want."""
        operations = []
        for steps, want, name in zip(self._programs, self._wants, PROGRAM_NAMES):
            held = held_after(held_behind(steps, self._locks), want, self._locks)
            frees = [("free", lock) for lock in held]
            operations.append(Operation(name, steps + [("lock", want)] + frees + [("give", (0,), None)]))
        return Build(2, {}, operations)

    def as_client(self):
        """A caller for each program."""
        return [once(PROGRAM_NAMES[at]) for at in range(len(self._programs))]


def held_behind(steps, locks):
    """What a program holds when it has made its steps."""
    held = ()
    for _, name in steps:
        held = held_after(held, name, locks)
    return held


class Circle:
    """What some programs that keep a rule come to together, up to a ring."""

    def __init__(self, rule, many):
        self._rule = rule
        self._locks = rule.locks()
        first = tuple([() for _ in range(many)])
        self._found = [first]
        # For each tuple of what the programs hold, the one that it was found from, the program and its step.
        self._back = {first: None}
        # The first of these at which the programs are a ring, or None.
        self.stuck_at = None
        at = 0
        while at < len(self._found) and self.stuck_at is None:
            self._look(self._found[at])
            at += 1

    def _look(self, helds):
        if len(self.wants_at(helds)) == len(helds):
            self.stuck_at = helds
            return
        taken = [name for held in helds for name in held]
        for at, held in enumerate(helds):
            steps = [("lock", name) for name in self._rule[held] if name not in taken]
            for step in steps + [("free", name) for name in held]:
                goal = helds[:at] + (held_after(held, step[1], self._locks),) + helds[at + 1:]
                if goal not in self._back:
                    self._back[goal] = (helds, at, step)
                    self._found.append(goal)

    def wants_at(self, helds):
        """For each program a lock that it may take next and the next one holds; programs without one are left out."""
        wants = []
        for at, held in enumerate(helds):
            following = helds[(at + 1) % len(helds)]
            wants.extend([name for name in self._rule[held] if name in following][:1])
        return wants

    def ring(self):
        """The ring that was found."""
        programs = [[] for _ in self.stuck_at]
        order = []
        helds = self.stuck_at
        while self._back[helds] is not None:
            helds, at, step = self._back[helds]
            programs[at].append(step)
            order.append(at)
        return Ring(self._locks, [steps[::-1] for steps in programs], self.wants_at(self.stuck_at), order[::-1])


def ring_of(rule):
    """A ring of the fewest programs, or None if the rule is never stuck."""
    # No ring needs more programs than there are locks.
    for many in range(2, len(rule.locks()) + 1):
        circle = Circle(rule, many)
        if circle.stuck_at is not None:
            return circle.ring()
    return None


def strikes(rule, most):
    """The list of all smallest sets of at most so many entries without which the rule is never stuck."""
    if not is_below(most, MOST_STRIKES + 1):
        raise BadNumber(most)
    if ring_of(rule) is None:
        return [()]
    entries = list(rule)
    single = []
    if most > 0:
        single = [(entry,) for entry in entries if is_enough(rule, [entry])]
    if most < 2:
        return single
    rest = [entry for entry in entries if (entry,) not in single]
    pairs = [(a, b) for at, a in enumerate(rest) for b in rest[at + 1:]]
    return single + [pair for pair in pairs if is_enough(rule, list(pair))]


def is_enough(rule, entries):
    """Whether the rule is never stuck without these entries."""
    return ring_of(rule - Rule(tuple(rule.locks()), entries)) is None
