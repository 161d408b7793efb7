"""Scripts: the operations of a build, taken apart for a machine that issues their steps."""

from coretower.books import KINDS
from coretower.steps import parts_of_role


class Line:
    """A step, taken apart; what it does not have is None."""

    def __init__(self, step, build, section):
        links = build.links()
        self.verb = step[0]
        self.section = section
        self.local = first_of(parts_of_role(step, "local"))
        self.name = first_of(parts_of_role(step, "name"))
        self.worths = tuple(parts_of_role(step, "worth"))
        self.guard = first_of(parts_of_role(step, "guard"))
        place = first_of(parts_of_role(step, "place"))
        # The local that holds the node of the place.
        self.holder = None
        self.place = place
        if isinstance(place, tuple):
            self.place, self.holder = place
        # The kind of an access, before a recipe changes it.
        self.access = step[0] if step[0] in KINDS else "both"
        # What is a link holds a node, whose number is not to be taken modulo the base.
        self.worth_base = None if self.place in links else build.base
        self.guard_base = None if self.guard is not None and self.guard[0] in links else build.base
        self.named = locals_named(step)


class Script:
    """The lines of an operation, and the locals that they name."""

    def __init__(self, operation, build, joined):
        self.turns = operation.turns
        self.otherwise = operation.otherwise
        sections = operation.sections() if joined else []
        self.lines = [Line(step, build, section_at(sections, at)) for at, step in enumerate(operation.steps())]
        self.slots = sorted({name for line in self.lines for name in line.named})
        # For each local whether it is a link.
        self.linked = [name in build.links() for name in self.slots]


def first_of(parts):
    """The first part, or None."""
    return parts[0] if parts else None


def section_at(sections, at):
    """The number of the section in which a step stands, or None."""
    for number, (first, last) in enumerate(sections):
        if first <= at <= last:
            return number
    return None


def locals_named(step):
    """The ascending list of the locals that a step names."""
    names = list(parts_of_role(step, "local"))
    worths = parts_of_role(step, "worth")
    for place in parts_of_role(step, "place"):
        if isinstance(place, tuple):
            names.append(place[1])
    for guard in parts_of_role(step, "guard"):
        if guard is not None:
            names.append(guard[0])
            worths.append(guard[2])
    names.extend([part for worth in worths for part in worth if isinstance(part, str)])
    return sorted(set(names))
