"""Calls run alone: what a build answers when its calls do not overlap."""

from coretower.clients import always
from coretower.errors import NoEnd, NoOperation, TooLarge
from coretower.machines import Machine
from coretower.nodes import FreshNodes
from coretower.tables import MOST_STATES, Table
from coretower.ways import way_of

MOST_DEEDS = 4000


class LoneCalls:
    """The calls of one caller, in order and on fresh nodes."""

    def __init__(self, build):
        names = build.names()
        # The caller may call anything whenever it has no open call, so it is at the same menu at all times.
        self._machine = Machine(build, [always(*names)], way_of(None, None, 2), FreshNodes(build), None, False)
        self._told = {}

    def begin(self):
        """The state ahead of all calls."""
        return self._machine.begin()

    def outcome_of(self, name, state):
        """The answer of a call and the state behind its return."""
        if (name, state) not in self._told:
            self._told[(name, state)] = self._run(name, state)
        return self._told[(name, state)]

    def _run(self, name, state):
        state = self._machine.moved(state, (0, "call", name))
        seen = {}
        while True:
            seen[state] = True
            deed = self._machine.able_deeds(state)[0]
            state = self._machine.moved(state, deed)
            if deed[1] == "return":
                return deed[2], state
            if state in seen:
                raise NoEnd(name)
            if len(seen) == MOST_DEEDS:
                raise TooLarge(MOST_DEEDS)


def lone_table(build):
    """The table of what the operations answer when they run alone."""
    calls = LoneCalls(build)
    found = [calls.begin()]
    numbers = {found[0]: 0}
    rows = {name: [] for name in build.names()}
    at = 0
    while at < len(found):
        for name in build.names():
            answer, state = calls.outcome_of(name, found[at])
            if state not in numbers:
                if len(found) == MOST_STATES:
                    raise TooLarge(MOST_STATES)
                numbers[state] = len(found)
                found.append(state)
            rows[name].append((answer, numbers[state]))
        at += 1
    return Table(rows)


def lone_answers(build, calls):
    """The list of the answers of calls that run alone, one after the other."""
    for name in calls:
        if name not in build.names():
            raise NoOperation(name)
    lone = LoneCalls(build)
    state = lone.begin()
    answers = []
    for name in calls:
        answer, state = lone.outcome_of(name, state)
        answers.append(answer)
    return answers
