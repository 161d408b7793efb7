"""Spaces: all that a machine can do for the callers of a build."""

from coretower.clients import check_client
from coretower.errors import BadNumber, BadPool, BadSetting, NoFence
from coretower.exploring import Explored
from coretower.kinds import is_number
from coretower.machines import Machine
from coretower.nodes import FreshNodes, PoolNodes
from coretower.turns import Turns
from coretower.ways import way_of


class Space:
    """The standings of a machine, their web, and what the machine holds at each of them."""

    def __init__(self, build, client, *, joined=False, pool=None, book=None, recipe=None, window=2, chooser=None):
        check_client(client, build.names())
        if joined and (pool is not None or book is not None or recipe is not None):
            raise BadSetting("joined")
        if book is not None and recipe is not None:
            raise BadSetting("recipe")
        if not is_number(window) or window not in (2, 3):
            raise BadNumber(window)
        self._nodes = FreshNodes(build) if pool is None else PoolNodes(build, pool)
        if pool is not None and pool.size < build.limit:
            raise BadPool(pool.size)
        turns = None if chooser is None else Turns(chooser)
        if turns is not None and turns.callers != len(client):
            raise BadSetting("chooser")
        way = way_of(book, recipe, window)
        check_fences(build, way.source)
        self._build = build
        self._machine = Machine(build, client, way, self._nodes, turns, joined)
        explored = Explored(self._machine)
        self._states = explored.stands
        self.web = explored.web

    def _state(self, at):
        self.web.check(at)
        return self._states[at]

    def _parts_at(self, at):
        return [self._machine.parts.part(number) for number in self._state(at)[2]]

    def memory(self, at):
        """A dict from the cells that are no links to what they hold."""
        links = self._build.links()
        return {name: worth for name, worth in zip(self._build.cells(), self._state(at)[0]) if name not in links}

    def holders(self, at):
        """A dict from the locks that are held to their callers."""
        parts = self._parts_at(at)
        holders = {}
        for name in self._build.locks():
            for caller, part in enumerate(parts):
                if name in part.held:
                    holders[name] = caller
        return holders

    def out(self, at):
        """How many nodes are out."""
        return self._nodes.many_out(self._state(at)[3])

    def called(self, at, caller):
        """The operation of the open call of a caller, "" if it is ready, or None."""
        return self._parts_at(at)[caller].name

    def pending(self, at, caller):
        """The list of the pending entries: the kind, the name of what it is at, the fences directly ahead."""
        part = self._parts_at(at)[caller]
        return [(entry[0], entry[1], gap) for entry, gap in zip(part.entries, part.gaps)]

    def behind(self, at, caller):
        """The tuple of the fences behind the last entry."""
        return self._parts_at(at)[caller].gaps[-1]

    def dirty(self, at):
        """Whether a node of the pool can come back although it is found."""
        state = self._state(at)
        found = self._machine.found(state)
        return any([node in found for node in self._nodes.eligible(state[3], found)])


def check_fences(build, book):
    """Raise NoFence for the first fence that a step names and this book, if there is one, does not have."""
    if book is None:
        return
    for name in build:
        for step in build[name].steps():
            if step[0] == "fence":
                book.fence(step[1])


def dirty_run(space):
    """A shortest run to a dirty standing, or None."""
    back = {0: None}
    waiting = [0]
    at = 0
    while at < len(waiting):
        stand = waiting[at]
        if space.dirty(stand):
            return run_to(stand, back)
        for deed, goal in space.web.moves(stand):
            if goal not in back:
                back[goal] = (stand, deed)
                waiting.append(goal)
        at += 1
    return None


def run_to(stand, back):
    """The run by which a standing was found first."""
    run = []
    while back[stand] is not None:
        stand, deed = back[stand]
        run.append(deed)
    return run[::-1]
