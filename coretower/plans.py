"""Plans: which lock guards which cell or field."""

from coretower.errors import BadName, NoCell
from coretower.kinds import is_name
from coretower.steps import parts_of_role, place_name


class Plan:
    """For some cells and fields the lock by which each is guarded."""

    def __init__(self, guards):
        for name in guards:
            if not is_name(name):
                raise BadName(name)
            if not is_name(guards[name]):
                raise BadName(guards[name])
        self._names = sorted(guards)
        self._guards = dict(guards)

    def __getitem__(self, at):
        if at not in self._names:
            raise NoCell(at)
        return self._guards[at]

    def __contains__(self, x):
        return x in self._names

    def __iter__(self):
        return iter(self._names)

    def fault(self, build):
        """None if the build follows the plan; otherwise the operation and the number of its first wrong step."""
        for name in build:
            at = first_fault(build[name].steps(), self._guards)
            if at is not None:
                return (name, at)
        return None


def first_fault(steps, guards):
    """The number of the first step that does not follow the guards, or None."""
    held = []
    freed = False
    for at, step in enumerate(steps):
        word = step[0]
        if word in ("take", "drop") and held or word == "lock" and freed:
            return at
        for place in parts_of_role(step, "place"):
            if guards.get(place_name(place)) not in held:
                return at
        if word == "lock":
            held.append(step[1])
        elif word == "free":
            held.remove(step[1])
            # Behind its first free step a section only frees; the next section begins when nothing is held.
            freed = len(held) > 0
    return None
