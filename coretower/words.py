"""Words of lines: their forms, and what they tell. What has not its form tells None."""

from coretower.books import FULL, KINDS
from coretower.kinds import is_name
from coretower.steps import FORMS, SIGNS

FIGURES = "0123456789"
MOST_FIGURES = 3
CALLERS = {"once": False, "again": True}
WISHES = {"once": "at once", "afterwards": "afterwards"}


def name_of(word):
    """A name."""
    return word if is_name(word) else None


def fence_of(word):
    """The name of a further fence."""
    return word if is_name(word) and word != FULL else None


def access_of(word):
    """A kind of accesses."""
    return word if word in KINDS else None


def again_of(word):
    """Whether a caller begins again."""
    return CALLERS.get(word)


def figure_of(word):
    """The number of a figure word."""
    if not 1 <= len(word) <= MOST_FIGURES or not all([sign in FIGURES for sign in word]):
        return None
    if word[0] == "0" and len(word) > 1:
        return None
    return int(word)


def names_of(word):
    """The tuple of some names; a dash stands for none."""
    return () if word == "-" else all_of(name_of, word.split(","))


def callers_of(word):
    """The tuple of the callers of a group."""
    return all_of(figure_of, word.split(","))


def groups_of(word):
    """The tuple of some groups."""
    return all_of(callers_of, word.split("|"))


def part_of(word):
    """A part of a worth: a name, or the number of a figure word."""
    return word if is_name(word) else figure_of(word)


def worth_of_word(word):
    """A worth."""
    return all_of(part_of, word.split("+"))


def place_of(word):
    """A place: a name, or a pair of the names of a field and of a local."""
    names = word.split("@")
    if len(names) > 2 or all_of(name_of, names) is None:
        return None
    return word if len(names) == 1 else tuple(names)


def pair_of(word):
    """A pair of names."""
    names = all_of(name_of, word.split(">"))
    return names if names is not None and len(names) == 2 else None


def answer_of(word):
    """A pair of an answer and a state."""
    numbers = all_of(figure_of, word.split(":"))
    return numbers if numbers is not None and len(numbers) == 2 else None


def wish_of(word):
    """The word of a tower that is wished."""
    return WISHES.get(word)


def spot_of(word):
    """A place of a build where it can be mended."""
    kind, *rest = word.split(":")
    told = None
    if kind == "section":
        told = told_by(rest, ("name",))
    elif kind == "fence":
        told = told_by(rest, ("name", "figure"))
    return None if told is None else tuple([kind] + told)


def deed_of(word):
    """What may be a visible deed, whoever its caller and whatever its answer."""
    parts = word.split(":")
    if len(parts) != 3 or parts[1] not in ("call", "return"):
        return None
    told = told_by([parts[0], parts[2]], ("figure", "name" if parts[1] == "call" else "figure"))
    return None if told is None else (told[0], parts[1], told[1])


def all_of(parser, words):
    """The tuple of what the parser makes of each word; None if it makes nothing of one."""
    found = [parser(word) for word in words]
    return None if None in found else tuple(found)


PARSERS = {
    "name": name_of, "fence": fence_of, "kind": access_of, "again": again_of, "figure": figure_of, "names": names_of,
    "groups": groups_of, "pair": pair_of, "answer": answer_of, "local": name_of, "place": place_of,
    "worth": worth_of_word, "wish": wish_of, "spot": spot_of, "deed": deed_of,
}


def told_by(words, form):
    """The list of what the words tell by a form.

    A form is a tuple of keys of the parsers, not empty. A plus behind the last one stands for one or more such words,
    a star for any number of them.
    """
    keys = list(form)
    if keys[-1][-1] in "+*":
        last = keys.pop()
        least = 1 if last[-1] == "+" else 0
        keys = keys + [last[:-1]] * max(least, len(words) - len(keys))
    if len(words) != len(keys):
        return None
    found = []
    for word, key in zip(words, keys):
        parser = PARSERS[key]
        found.append(parser(word))
    return None if None in found else found


def step_of(words):
    """The step that the words of a line tell."""
    roles = FORMS[words[0]]
    form = tuple([role for role in roles if role != "guard"])
    told = told_by(words[1:len(form) + 1], form)
    if told is None:
        return None
    rest = words[len(form) + 1:]
    if len(form) == len(roles):
        return None if rest else tuple([words[0]] + told)
    if not rest:
        return tuple([words[0]] + told + [None])
    guard = guard_of(rest)
    return None if guard is None else tuple([words[0]] + told + [guard])


def guard_of(words):
    """The guard that the words at the end of a step tell."""
    if len(words) != 4 or words[0] != "if" or words[2] not in SIGNS:
        return None
    told = told_by([words[1], words[3]], ("local", "worth"))
    return None if told is None else (told[0], words[2], told[1])
