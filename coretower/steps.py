"""Steps: their forms, their parts, and the values of worths and guards."""

from coretower.kinds import is_name, is_number

# For each word, the roles of the parts that stand behind it.
FORMS = {
    "read": ("local", "place", "guard"),
    "acquire": ("local", "place", "guard"),
    "write": ("place", "worth", "guard"),
    "release": ("place", "worth", "guard"),
    "swap": ("local", "place", "worth", "guard"),
    "cas": ("local", "place", "worth", "worth", "guard"),
    "fence": ("name", "guard"),
    "lock": ("name",),
    "free": ("name",),
    "take": ("local", "guard"),
    "drop": ("local", "guard"),
    "give": ("worth", "guard"),
}
SIGNS = ("=", "!", "<")


def worth_of(worth, values, base):
    """The value of a worth, modulo the base unless this is None."""
    total = sum([values[part] if isinstance(part, str) else part for part in worth])
    return total if base is None else total % base


def holds(guard, values, base):
    """Whether a guard holds."""
    if guard is None:
        return True
    local, sign, worth = guard
    value = worth_of(worth, values, base)
    if sign == "=":
        return values[local] == value
    if sign == "!":
        return values[local] != value
    return values[local] < value


def is_step(step):
    """Whether this, any value, is of the form of a step, whatever its names are names of."""
    if not isinstance(step, tuple) or not step or not isinstance(step[0], str) or step[0] not in FORMS:
        return False
    roles = FORMS[step[0]]
    if len(step) != len(roles) + 1:
        return False
    return all([is_part(part, role) for part, role in zip(step[1:], roles)])


def is_part(part, role):
    """Whether this, any value, can be the part of a step with this role."""
    if role == "place":
        return is_place(part)
    if role == "worth":
        return is_worth(part)
    if role == "guard":
        return part is None or is_guard(part)
    return is_name(part)


def is_place(part):
    """Whether this, any value, is a name, or a pair of the names of a field and a local."""
    if isinstance(part, tuple):
        return len(part) == 2 and all([is_name(name) for name in part])
    return is_name(part)


def is_worth(part):
    """Whether this, any value, is a tuple of 1 to 3 names and numbers."""
    if not isinstance(part, tuple) or not 1 <= len(part) <= 3:
        return False
    return all([is_name(item) or is_number(item) for item in part])


def is_guard(part):
    """Whether this, any value, is a tuple of a name, a sign and a worth."""
    if not isinstance(part, tuple) or len(part) != 3:
        return False
    local, sign, worth = part
    return is_name(local) and sign in SIGNS and is_worth(worth)


def parts_of_role(step, role):
    """The list of the parts of a step with this role, in order."""
    return [part for part, other in zip(step[1:], FORMS[step[0]]) if other == role]


def place_name(place):
    """The name of the cell or field of a place."""
    return place[0] if isinstance(place, tuple) else place


def lock_fault(steps):
    """The number of the first lock or free step out of place, that of all steps if a lock is held then, or None."""
    held = {}
    for at, step in enumerate(steps):
        word = step[0]
        if word in ("lock", "free"):
            if (word == "lock") == (step[1] in held):
                return at
            if word == "lock":
                held[step[1]] = True
            else:
                del held[step[1]]
    return len(steps) if held else None


def sections_of(steps):
    """The pairs of the first and the last step of each section, for steps without a lock fault."""
    found = []
    held = 0
    first = 0
    for at, step in enumerate(steps):
        if step[0] == "lock":
            if held == 0:
                first = at
            held += 1
        elif step[0] == "free":
            held -= 1
            if held == 0:
                found.append((first, at))
    return found
