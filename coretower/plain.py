"""The plain web: callers of a table, each call answered at one moment of its own."""

from coretower.clients import check_client, menu_after, menu_deeds
from coretower.exploring import Explored
from coretower.tuples import changed


class PlainCalls:
    """What the callers of a table can do.

    A state is the table's state and, for each caller, a tuple of the next menu, the operation of an open call
    without an answer, and the answer of one that has it; None stands for lacking ones.
    """

    def __init__(self, table, client):
        self._table = table
        self._client = list(client)
        self._deeds = menu_deeds(client)

    def begin(self):
        """The first state."""
        return (self._table.first, tuple([(0, None, None) for _ in self._client]))

    def able_deeds(self, state):
        """The ascending list of all deeds of a state."""
        deeds = []
        for caller, (menu, name, answer) in enumerate(state[1]):
            if answer is not None:
                deeds.append((caller, "return", answer))
            elif name is not None:
                deeds.append((caller, "step", 0))
            else:
                deeds.extend(self._deeds[caller][menu])
        return deeds

    def moved(self, state, deed):
        """The state that a deed leads to."""
        at, callers = state
        caller, word, what = deed
        menu, name, _ = callers[caller]
        answer = None
        if word == "call":
            menu = menu_after(self._client[caller], menu)
            name = what
        elif word == "step":
            table = self._table
            answer, at = table(name, at)
            name = None
        return (at, changed(callers, caller, (menu, name, answer)))


def plain_web(table, client):
    """The plain web of a table and a client."""
    check_client(client, table.names())
    return Explored(PlainCalls(table, client)).web
