"""Spaces: all that a machine can do for the callers of a build."""

from coretower.clients import check_client
from coretower.errors import BadNumber, BadPool, BadSetting
from coretower.exploring import Explored
from coretower.kinds import is_below, is_number
from coretower.machines import Machine
from coretower.nodes import FreshNodes, PoolNodes
from coretower.reaching import found_from, run_to
from coretower.turns import Turns
from coretower.ways import way_of


class Space:
    """The standings of a machine, their web, and what the machine holds at each of them."""

    def __init__(self, build, client, *, joined=False, pool=None, book=None, recipe=None, window=2, chooser=None):
        check_client(client, build.names())
        if joined and (pool is not None or book is not None or recipe is not None):
            raise BadSetting("joined")
        check_settings(build, client, pool, book, recipe, window, chooser)
        self._build = build
        self._nodes = FreshNodes(build) if pool is None else PoolNodes(build, pool)
        turns = None if chooser is None else Turns(chooser)
        self._machine = Machine(build, client, way_of(book, recipe, window), self._nodes, turns, joined)
        explored = Explored(self._machine)
        self._states = explored.stands
        self.web = explored.web

    def _state(self, at):
        self.web.check(at)
        return self._states[at]

    def _parts_at(self, at):
        return [self._machine.parts.part(number) for number in self._state(at)[2]]

    def _part_at(self, at, caller):
        parts = self._parts_at(at)
        # A caller that there is not is at nothing, as one that has not begun.
        return parts[caller] if is_below(caller, len(parts)) else self._machine.parts.part(self._machine.parts.idle())

    def memory(self, at):
        """A dict from the cells that are no links to what they hold."""
        links = self._build.links()
        return {name: worth for name, worth in zip(self._build.cells(), self._state(at)[0]) if name not in links}

    def holders(self, at):
        """A dict from the locks that are held to their callers."""
        parts = self._parts_at(at)
        holders = {}
        for name in self._build.locks():
            for caller, part in enumerate(parts):
                if name in part.held:
                    holders[name] = caller
        return holders

    def out(self, at):
        """How many nodes are out."""
        return self._nodes.many_out(self._state(at)[3])

    def called(self, at, caller):
        """The operation of the open call of a caller, "" if it is ready, or None."""
        return self._part_at(at, caller).name

    def pending(self, at, caller):
        """The list of the pending entries: the kind, the name of what it is at, the fences directly ahead."""
        part = self._part_at(at, caller)
        return [(entry[0], entry[1], gap) for entry, gap in zip(part.entries, part.gaps)]

    def behind(self, at, caller):
        """The tuple of the fences behind the last entry."""
        return self._part_at(at, caller).gaps[-1]

    def dirty(self, at):
        """Whether a node of the pool can come back although it is found."""
        state = self._state(at)
        found = self._machine.found(state)
        return any([node in found for node in self._nodes.eligible(state[3], found)])


def check_settings(build, client, pool, book, recipe, window, chooser):
    """Raise for what a machine of a build cannot have, given a client that has been checked."""
    if book is not None and recipe is not None:
        raise BadSetting("recipe")
    if not is_number(window) or window not in (2, 3):
        raise BadNumber(window)
    if pool is not None and pool.size < build.limit:
        raise BadPool(pool.size)
    if chooser is not None and chooser.callers != len(client):
        raise BadSetting("chooser")
    source = book if recipe is None else recipe.source
    if source is not None:
        check_fences(build, source)


def check_fences(build, book):
    """Raise NoFence for the first fence that a step names and the book does not have."""
    for name in build:
        for step in build[name].steps():
            if step[0] == "fence":
                book.fence(step[1])


def dirty_run(space):
    """A shortest run to a dirty standing, or None."""
    back = found_from(space.web)
    for at in back:
        if space.dirty(at):
            return run_to(at, back)
    return None
