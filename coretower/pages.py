"""Pages: blocks with names, each a thing of this package, or the parts of a tower."""

from coretower.errors import BadName, NoThing, SameName
from coretower.kinds import is_name
from coretower.towers import Tower

TOWER = "tower"
MUST_PARTS = ("table", "build", "client")
# The parts of a tower that name blocks, each of the kind of this name.
NAMED_PARTS = ("table", "build", "client", "pool", "book", "recipe", "chooser")


class Page:
    """Blocks, in the order in which they were put."""

    def __init__(self):
        self._names = []
        self._kinds = {}
        self._things = {}

    def put(self, name, kind, thing):
        """Add a block."""
        if not is_name(name):
            raise BadName(name)
        if name in self._kinds:
            raise SameName(name)
        self._names.append(name)
        self._kinds[name] = kind
        self._things[name] = copy_of(thing)

    def kind(self, name):
        """The kind of a block."""
        self.check(name)
        return self._kinds[name]

    def __getitem__(self, at):
        self.check(at)
        return copy_of(self._things[at])

    def __iter__(self):
        return iter(self._names)

    def built(self, name):
        """The Tower of a block."""
        self.check_kind(name, TOWER)
        parts = self._things[name]
        named = [part for part in NAMED_PARTS if part in parts or part in MUST_PARTS]
        for part in named:
            self.check_kind(parts.get(part), part)
        things = {part: self._things[parts[part]] for part in named}
        if "recipe" in things:
            things["recipe"] = things["recipe"][2]
        if "window" in parts:
            things["window"] = parts["window"]
        return Tower(**things)

    def check(self, name):
        """Raise NoThing unless this, any value, is the name of a block."""
        if not is_name(name) or name not in self._kinds:
            raise NoThing(name)

    def check_kind(self, name, kind):
        """Raise NoThing unless this, any value, is the name of a block of a kind."""
        if not self.has(name, kind):
            raise NoThing(name)

    def has(self, name, kind):
        """Whether this, any value, is the name of a block of a kind."""
        return is_name(name) and self._kinds.get(name) == kind


def copy_of(thing):
    """A list or dict is copied; what is no list or dict is kept."""
    if isinstance(thing, list):
        return list(thing)
    if isinstance(thing, dict):
        return {part: thing[part] for part in thing}
    return thing
