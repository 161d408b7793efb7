"""Blocks of a page while they are read: their lines, and the things that these make."""

from coretower.books import Book, Pairs
from coretower.builds import Build, Operation
from coretower.choosers import Chooser
from coretower.clients import check_callers
from coretower.locking import Rule
from coretower.plans import Plan
from coretower.pools import Pool
from coretower.recipes import Recipe
from coretower.steps import FORMS
from coretower.tables import Table
from coretower.words import step_of, told_by

# For each kind the forms of the words behind the name in the head.
HEADS = {
    "table": ("figure",), "build": ("figure", "figure"), "client": (), "book": (), "recipe": ("name", "name"),
    "rule": ("names",), "plan": (), "pool": ("name", "figure"), "chooser": ("figure",),
    "tower": ("name", "name", "name"),
}
# For each kind the first words of its lines, stage by stage. A star tells that a stage has any number of lines.
STAGES = {
    "table": (("op", "*"),), "build": (("cell", "*"), ("field", "*"), ("links",), ("op", "*")),
    "client": (("caller", "*"),), "book": (("keep",), ("fence", "*")), "recipe": (("row", "*"),),
    "rule": (("entry", "*"),), "plan": (("guard", "*"),), "pool": (), "chooser": (("state", "*"),),
    "tower": (("pool",), ("book", "recipe"), ("window",), ("chooser",)),
}
# For each kind and first word the forms of the further words.
LINES = {
    ("table", "op"): ("name", "answer+"),
    ("build", "cell"): ("name", "figure"),
    ("build", "field"): ("name",),
    ("build", "links"): ("names",),
    ("build", "op"): ("name", "figure", "figure"),
    ("client", "caller"): ("again", "names+"),
    ("book", "keep"): ("pair+",),
    ("book", "fence"): ("fence", "pair*"),
    ("recipe", "row"): ("name", "names"),
    ("rule", "entry"): ("names", "name"),
    ("plan", "guard"): ("name", "name"),
    ("chooser", "state"): ("groups", "figure+"),
    ("tower", "pool"): ("name",),
    ("tower", "book"): ("name",),
    ("tower", "recipe"): ("name",),
    ("tower", "window"): ("figure",),
    ("tower", "chooser"): ("name",),
}
# The row of a kind has more words than that of another name.
KIND_ROW = ("kind", "kind", "names", "names")
# The lines whose first items are names that must differ.
NAMED_LINES = ("op", "cell", "fence", "row", "guard")
TOWER_HEAD = ("table", "build", "client")


class Block:
    """The kind of a block, what its head tells, its name first, and pairs of the first word and what a line tells."""

    def __init__(self, word, head):
        self.word_of_kind = word
        self.head = head
        self.lines = []
        self._stage = 0

    def accepts(self, words):
        """Take a line, if its words have the form told for it at its place; returns whether they have."""
        verb = words[0]
        stage = self._stage_of(verb)
        if stage is None or stage < self._stage:
            return False
        told = step_of(words) if self._is_step(verb) else told_by(words[1:], self._form(words))
        if told is None:
            return False
        self.lines.append((verb, told))
        repeats = "*" in STAGES[self.word_of_kind][stage]
        self._stage = stage if repeats else stage + 1
        return True

    def _is_step(self, verb):
        return self.word_of_kind == "build" and verb in FORMS

    def _stage_of(self, verb):
        """The number of the stage of a line; None if there is no such line, or a step without an operation."""
        if self._is_step(verb):
            last = self.lines[-1][0] if self.lines else None
            verb = "op" if last == "op" or self._is_step(last) else None
        for number, stage in enumerate(STAGES[self.word_of_kind]):
            if verb != "*" and verb in stage:
                return number
        return None

    def _form(self, words):
        if words[0] == "row" and len(words) == len(KIND_ROW) + 1:
            return KIND_ROW
        return LINES[(self.word_of_kind, words[0])]

    def name_twice(self):
        """The first name with two lines of the same sort, or None."""
        seen = {}
        for verb, told in self.lines:
            if verb in NAMED_LINES and not self._is_step(verb):
                if (verb, told[0]) in seen:
                    return told[0]
                seen[(verb, told[0])] = True
        return None

    def needs(self):
        """The list of the pairs of a name that the block refers to, and the kind of the block that must have it."""
        if self.word_of_kind == "recipe":
            return [(name, "book") for name in self.head[1:]]
        if self.word_of_kind == "tower":
            lines = [(told[0], part) for part, told in self.lines if part != "window"]
            return list(zip(self.head[1:], TOWER_HEAD)) + lines
        return []

    def made(self, page):
        """The thing of the block, given a page that has all that it refers to."""
        if self.word_of_kind == "recipe":
            return made_recipe(self.head, self.lines, page)
        make = MAKERS[self.word_of_kind]
        return make(self.head, self.lines)


def made_table(head, lines):
    """The Table of a block."""
    rows = {}
    for _, (name, *pairs) in lines:
        rows[name] = pairs
    return Table(rows, head[1])


def made_build(head, lines):
    """The Build of a block."""
    cells, fields, links, operations = {}, [], (), []
    for verb, told in lines:
        if verb == "cell":
            cells[told[0]] = told[1]
        elif verb == "field":
            fields.append(told[0])
        elif verb == "links":
            links = told[0]
        elif verb == "op":
            operations.append((told, []))
        else:
            operations[-1][1].append(told)
    made = [Operation(name, steps, turns=turns, otherwise=number) for (name, turns, number), steps in operations]
    return Build(head[1], cells, made, fields=tuple(fields), links=links, limit=head[2])


def made_client(head, lines):
    """The client of a block."""
    client = [(tuple(menus), again) for _, (again, *menus) in lines]
    check_callers(client)
    return client


def made_book(head, lines):
    """The Book of a block."""
    kept = Pairs()
    fences = {}
    for verb, told in lines:
        if verb == "keep":
            kept = Pairs(told)
        else:
            fences[told[0]] = Pairs(told[1:])
    return Book(kept, fences=fences)


def made_recipe(head, lines, page):
    """What a page keeps of the recipe of a block."""
    _, source, target = head
    recipe = Recipe(page[source], page[target])
    for _, told in lines:
        if len(told) == len(KIND_ROW):
            name, kind, ahead, behind = told
            recipe[name] = (ahead, kind, behind)
        else:
            recipe[told[0]] = told[1]
    return (source, target, recipe)


def made_rule(head, lines):
    """The Rule of a block."""
    return Rule(head[1], [tuple(told) for _, told in lines])


def made_plan(head, lines):
    """The Plan of a block."""
    guards = {}
    for _, (name, lock) in lines:
        guards[name] = lock
    return Plan(guards)


def made_pool(head, lines):
    """The Pool of a block."""
    return Pool(head[1], head[2])


def made_chooser(head, lines):
    """The Chooser of a block."""
    return Chooser(head[1], [(groups, tuple(goals)) for _, (groups, *goals) in lines])


def made_tower(head, lines):
    """The names of the parts of the tower of a block."""
    parts = dict(zip(TOWER_HEAD, head[1:]))
    for part, told in lines:
        parts[part] = told[0]
    return parts


MAKERS = {
    "table": made_table, "build": made_build, "client": made_client, "book": made_book, "rule": made_rule,
    "plan": made_plan, "pool": made_pool, "chooser": made_chooser, "tower": made_tower,
}
