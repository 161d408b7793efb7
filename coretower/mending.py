"""Mending: sections and fences that are put into a build until its tower answers as wished."""

from coretower.books import FULL
from coretower.builds import Build, Operation
from coretower.errors import BadPlace, BadSetting, TooLarge
from coretower.kinds import is_below
from coretower.steps import parts_of_role

MEND = "mend"
# With a fence behind each step and a section around all, an operation of so many steps still has at most 80.
MOST_STEPS = 39
MOST_PLACES = 5
WISHES = ("at once", "afterwards")


def places(build):
    """The ascending list of all valid places of a build."""
    names = [name for name in build if can_be_mended(build[name])]
    fences = []
    for name in names:
        steps = build[name].steps()
        fences.extend([("fence", name, at) for at, step in enumerate(steps) if parts_of_role(step, "place")])
    return [("section", name) for name in names] + fences


def can_be_mended(operation):
    """Whether an operation can have places."""
    steps = operation.steps()
    return len(steps) <= MOST_STEPS and ("lock", MEND) not in steps


def check_places(build, chosen):
    """Raise BadPlace for the first of these, any values, that is not valid, or stands ahead already."""
    possible = places(build)
    for at, place in enumerate(chosen):
        if not is_place_of(place, possible) or place in chosen[:at]:
            raise BadPlace(place)


def is_place_of(place, possible):
    """Whether this, any value, is one of the possible places; True and False are no numbers of steps."""
    if place not in possible:
        return False
    return place[0] == "section" or is_below(place[2], MOST_STEPS)


def mended(build, chosen):
    """A new build, mended at the places of a list."""
    check_places(build, chosen)
    operations = [mended_operation(build[name], chosen) for name in build]
    fields, links = tuple(build.fields()), tuple(build.links())
    return Build(build.base, build.cells(), operations, fields=fields, links=links, limit=build.limit)


def mended_operation(operation, chosen):
    """A new operation, mended at those of the places that are its own."""
    name = operation.name
    steps = []
    for at, step in enumerate(operation.steps()):
        steps.append(step)
        if ("fence", name, at) in chosen:
            steps.append(("fence", FULL, None))
    if ("section", name) in chosen:
        steps = [("lock", MEND)] + steps + [("free", MEND)]
    return Operation(name, steps, turns=operation.turns, otherwise=operation.otherwise)


class Mend:
    """A choice of places, the tower with the mended build, and the choices tried before, each with its word."""

    def __init__(self, chosen, tower, against):
        self.chosen = chosen
        self.tower = tower
        self.against = against


def fewest_places(tower, among, wish):
    """A Mend with the first choice by which the tower has the word that is wished, or "at once"; None if none has."""
    if wish not in WISHES:
        raise BadSetting(wish)
    if len(among) > MOST_PLACES:
        raise TooLarge(MOST_PLACES)
    check_places(tower.build, among)
    against = []
    for choice in choices_of([place for place in places(tower.build) if place in among]):
        other = tower.rebuilt(mended(tower.build, list(choice)))
        word = other.whole()
        if word in ("at once", wish):
            return Mend(choice, other, tuple(against))
        against.append((choice, word))
    return None


def choices_of(among):
    """The list of all choices among ascending places, by length, then in the order of the places."""
    found = [()]
    # For each choice the number of the first place that may be added behind it.
    starts = [0]
    at = 0
    while at < len(found):
        choice, first = found[at], starts[at]
        for number in range(first, len(among)):
            found.append(choice + (among[number],))
            starts.append(number + 1)
        at += 1
    return found
