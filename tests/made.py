"""Builds, books, recipes and clients at random, for comparisons with tests/machines.py."""

import random

from coretower.books import KINDS, PAIRS, READS, WRITES, Book, Pairs
from coretower.builds import Build, Operation
from coretower.choosers import Chooser
from coretower.clients import always, once
from coretower.pools import Pool
from coretower.recipes import Recipe

PLAIN_LOCALS = ("a", "b")
LINK_LOCALS = ("p", "q")


def random_worth(source, linked):
    if linked:
        return source.choice([(0,), ("p",), ("q",)])
    return tuple(source.choice([0, 1, 1, 2, "a", "b"]) for _ in range(source.choice([1, 1, 1, 2, 3])))


def random_guard(source, linked):
    if source.random() < 0.7:
        return None
    if linked and source.random() < 0.5:
        return (source.choice(LINK_LOCALS), source.choice("=!"), random_worth(source, True))
    return (source.choice(PLAIN_LOCALS), source.choice("=!<"), random_worth(source, False))


def random_place(source, linked):
    """A place, and whether it is a link."""
    choices = ["x", "y", "x"]
    if linked:
        choices += ["top", "top", ("next", source.choice(LINK_LOCALS)), ("val", source.choice(LINK_LOCALS))]
    place = source.choice(choices)
    return place, (place if isinstance(place, str) else place[0]) in ("top", "next")


def random_step(source, linked, fences):
    words = ["read", "acquire", "write", "write", "release", "swap", "cas", "read", "fence", "give"]
    if linked:
        words += ["take", "take", "drop"]
    word = source.choice(words)
    guard = random_guard(source, linked)
    if word == "fence":
        return ("fence", source.choice(fences), guard)
    if word == "give":
        return ("give", random_worth(source, False), guard or ("a", "=", (1,)))
    if word in ("take", "drop"):
        return (word, source.choice(LINK_LOCALS), guard)
    place, is_link = random_place(source, linked)
    local = source.choice(LINK_LOCALS if is_link else PLAIN_LOCALS)
    if word in READS:
        return (word, local, place, guard)
    if word in WRITES:
        return (word, place, random_worth(source, is_link), guard)
    if word == "swap":
        return (word, local, place, random_worth(source, is_link), guard)
    return (word, source.choice(PLAIN_LOCALS), place, random_worth(source, is_link), random_worth(source, is_link), guard)


def with_locks(source, steps):
    """The steps with a section, perhaps with another one inside it."""
    first, last = sorted(source.choices(range(len(steps) + 1), k=2))
    steps = steps[:first] + [("lock", "m")] + steps[first:last] + [("free", "m")] + steps[last:]
    if source.random() < 0.3:
        inner = source.randint(first + 1, last + 1)
        end = source.randint(inner, len(steps))
        steps = steps[:inner] + [("lock", "k")] + steps[inner:end] + [("free", "k")] + steps[end:]
    return steps


def random_build(seed, most=4, linked=None, locks=0.4, fences=("full",)):
    source = random.Random(seed)
    linked = source.random() < 0.4 if linked is None else linked
    operations = []
    for name in ("f", "g")[:source.choice([1, 2])]:
        steps = [random_step(source, linked, fences) for _ in range(source.randint(1, most))]
        if source.random() < 0.6:
            steps.append(("give", random_worth(source, False), None))
        if source.random() < locks:
            steps = with_locks(source, steps)
        operations.append(Operation(name, steps, turns=source.choice([1, 1, 1, 2, 0]), otherwise=source.randrange(3)))
    cells = {"x": source.randrange(2), "y": 0}
    if not linked:
        return Build(source.choice([2, 3]), cells, operations)
    fields = ("val", "next")
    return Build(source.choice([2, 3]), {**cells, "top": 0}, operations, fields=fields, limit=source.choice([0, 1, 2, 3]),
                 links=("top", "next", "p", "q"))


def random_row_build(seed):
    """Operations that take nodes, write all of their fields, put them in rows and take them out again."""
    source = random.Random(seed)
    blocks = [
        [("take", "p", None)], [("take", "q", None)], [("drop", "p", None)], [("drop", "q", None)],
        [("read", "q", "top", None)], [("write", "top", ("p",), None)], [("write", ("next", "p"), ("q",), None)],
        [("write", ("val", "p"), ("a", 1), None)], [("read", "a", ("val", "p"), None)], [("read", "p", ("next", "q"), None)],
        [("swap", "q", "top", ("p",), None)], [("cas", "b", "top", ("q",), ("p",), None)], [("read", "p", "head", None)],
        [("write", "head", ("q",), None)], [("cas", "b", ("next", "p"), (0,), ("q",), None)],
    ]
    starts = [
        [("take", "p", None), ("write", ("val", "p"), (1,), None), ("read", "q", "top", None)],
        [("take", "q", None), ("take", "p", None), ("write", ("val", "q"), (1,), None), ("write", ("next", "p"), ("q",), None)],
        [("read", "q", "top", None), ("read", "p", ("next", "q"), None), ("write", "top", ("p",), None), ("drop", "q", None)],
    ]
    operations = []
    for name in ("f", "g"):
        steps = list(source.choice(starts))
        for _ in range(source.randint(1, 3)):
            steps += source.choice(blocks)
        steps += [("read", "a", ("val", "q"), None), ("give", ("a",), None)]
        operations.append(Operation(name, steps))
    fields = source.choice([("val", "next"), ("next", "val")])
    return Build(source.choice([2, 3]), {"head": 0, "top": 0}, operations, fields=fields, limit=source.choice([2, 3]),
                 links=("top", "head", "next", "p", "q"))


def random_pairs(source, chance=0.4):
    return Pairs([pair for pair in PAIRS if source.random() < chance])


def random_book(source, fences=()):
    usual = [Book.strict(), Book.buffered(), Book.loose()]
    if not fences and source.random() < 0.5:
        return source.choice(usual)
    return Book(random_pairs(source), fences={name: random_pairs(source) for name in fences})


def random_recipe(source, book, fences=(), chance=0.3):
    recipe = Recipe(book, random_book(source, fences))
    names = recipe.target.fences()

    def some():
        return tuple(name for name in names if source.random() < chance)
    for kind in KINDS:
        group = [group for group in (READS, WRITES, ("both",)) if kind in group][0]
        recipe[kind] = (some(), source.choice(group), some())
    for name in book.fences() + ["return"]:
        recipe[name] = some()
    return recipe


def random_client(source, names):
    """Two callers, or one; rather short ones, for the webs to stay small."""
    callers = []
    for _ in range(source.choice([1, 2, 2, 2])):
        kind = source.random()
        if kind < 0.4:
            callers.append(once(source.choice(names)))
        elif kind < 0.6:
            callers.append(once(*[source.choice(names) for _ in range(2)]))
        else:
            callers.append((always(*names)[0] * source.choice([1, 2]), source.random() < 0.7))
    return callers


def random_chooser(source, callers):
    everyone = list(range(callers))
    states = []
    many = source.randint(1, 3)
    for _ in range(many):
        source.shuffle(everyone)
        cut = source.randint(1, callers)
        groups = tuple(tuple(sorted(group)) for group in (everyone[:cut], everyone[cut:]) if group)
        states.append((groups, tuple(source.randrange(many) for _ in range(callers))))
    return Chooser(callers, states)


def random_settings(seed, build, fences=()):
    """The client and the further arguments of a Space."""
    source = random.Random(seed + 10000)
    client = random_client(source, build.names())
    more = {}
    way = source.choice(["order", "joined", "book", "book", "recipe"])
    if way == "joined":
        more["joined"] = True
    elif way == "book":
        more["book"] = random_book(source, fences)
    elif way == "recipe":
        more["recipe"] = random_recipe(source, random_book(source, fences), fences)
    if way in ("book", "recipe"):
        more["window"] = source.choice([2, 3])
    if way != "joined" and build.limit and source.random() < 0.6:
        rule = source.choice(["last", "first", "quiet", "unheld"])
        more["pool"] = Pool(rule, source.randint(build.limit, 4))
    if source.random() < 0.3:
        more["chooser"] = random_chooser(source, len(client))
    return client, more


def random_object(seed):
    """A build of usual operations, with a section here and there; its machines often answer as they should."""
    source = random.Random(seed)
    operations = []
    for name in ("f", "g", "h")[:source.choice([1, 2, 2, 3])]:
        cell, other = source.sample("xy", 2)
        kinds = [
            [("read", "a", cell, None)], [("read", "a", cell, None), ("write", cell, ("a", 1), None)],
            [("write", cell, (source.randrange(2),), None)], [("write", cell, (1,), None), ("write", other, (1,), None)],
            [("read", "a", cell, None), ("read", "b", other, None)], [("swap", "a", cell, (source.randrange(2),), None)],
            [("read", "a", cell, None), ("cas", "b", cell, ("a",), ("a", 1), None)],
            [("read", "a", cell, None), ("write", other, ("a", 1), None)],
        ]
        steps = list(source.choice(kinds)) + (source.choice(kinds) if source.random() < 0.2 else [])
        if source.random() < 0.4:
            first, last = sorted(source.choices(range(len(steps) + 1), k=2))
            steps = steps[:first] + [("lock", "m")] + steps[first:last] + [("free", "m")] + steps[last:]
        operations.append(Operation(name, steps + [("give", source.choice([("a",), ("a", "b", "b")]), None)]))
    return Build(source.choice([2, 3]), {"x": 0, "y": 0}, operations)
