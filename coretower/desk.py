"""A desk: it is asked about the things of a page, and answers in lines."""

from coretower.ends import Ends
from coretower.errors import BadAsk
from coretower.likeness import parting
from coretower.lone import lone_table
from coretower.mending import fewest_places
from coretower.reader import page_of
from coretower.recipes import lost
from coretower.rings import held_behind, ring_of
from coretower.traces import order_of
from coretower.words import told_by
from coretower.writer import figures, names_word, operation_lines, told_block

# For each question the forms of the words behind the first one.
ASKS = {
    "tell": ("name",), "alike": ("name", "name"), "lone": ("name",), "lost": ("name",), "ring": ("name",),
    "follows": ("name", "name"), "word": ("name",), "ends": ("name", "name"), "mend": ("name", "wish", "spot+"),
    "order": ("name", "deed+"),
}
# For each question but tell the kinds of the blocks that its first names must be those of.
KINDS_ASKED = {
    "alike": ("table", "table"), "lone": ("build",), "lost": ("recipe",), "ring": ("rule",),
    "follows": ("build", "plan"), "word": ("tower",), "ends": ("tower",), "mend": ("tower",), "order": ("table",),
}


class Desk:
    """A page and those who ask about it."""

    def __init__(self, text):
        self.page = page_of(text)
        self._asked = 0

    @property
    def asked(self):
        """How often the desk has been asked, refused questions too."""
        return self._asked

    def ask(self, line):
        """The list of the lines that answer a question."""
        self._asked += 1
        words = line.split(" ")
        told = told_by(words[1:], ASKS[words[0]]) if words[0] in ASKS else None
        if told is None:
            raise BadAsk(line)
        for name, kind in zip(told, KINDS_ASKED.get(words[0], ())):
            self.page.check_kind(name, kind)
        answer = ANSWERS[words[0]]
        return answer(self.page, told)


def tell_block(page, told):
    """The lines of a block."""
    return told_block(page, told[0])


def tell_alike(page, told):
    """Whether two tables are alike."""
    row = parting(page[told[0]], page[told[1]])
    return ["alike"] if row is None else [" ".join(["parted"] + row)]


def tell_lone(page, told):
    """The lines of the lone table of a build."""
    return [" ".join(words) for words in operation_lines(lone_table(page[told[0]]))]


def tell_lost(page, told):
    """The pairs that a recipe loses."""
    _, _, recipe = page[told[0]]
    return [" ".join([first, "-" if fence is None else fence, second]) for first, fence, second in lost(recipe)]


def tell_ring(page, told):
    """Whether programs that keep a rule can wait for each other for ever."""
    rule = page[told[0]]
    ring = ring_of(rule)
    if ring is None:
        return ["never stuck"]
    helds = [names_word(held_behind(steps, rule.locks())) for steps in ring.programs]
    return [f"{held} wants {lock}" for held, lock in zip(helds, ring.wants)]


def tell_follows(page, told):
    """Whether a build follows a plan."""
    fault = page[told[1]].fault(page[told[0]])
    if fault is None:
        return ["follows"]
    name, number = fault
    return [f"breaks {name} {number}"]


def tell_word(page, told):
    """The words of a tower and of its rungs."""
    tower = page.built(told[0])
    return [tower.whole()] + [f"{name} {tower.word(name)}" for name in tower.rungs()[1:]]


def tell_ends(page, told):
    """Whether the calls of a rung come to their returns."""
    tower = page.built(told[0])
    ends = Ends(tower[told[1]])
    worths = [("stuck", ends.stuck()), ("some", ends.some()), ("each", ends.each()), ("fair", ends.fair())]
    worths.append(("singly", ends.singly()))
    return [f"{word} yes" if worth else f"{word} no" for word, worth in worths]


def tell_mend(page, told):
    """Where a tower is to be mended."""
    name, wish, *spots = told
    mend = fewest_places(page.built(name), spots, wish)
    if mend is None:
        return ["none"]
    return [":".join(figures(place)) for place in mend.chosen] + [f"tried {len(mend.against) + 1}"]


def tell_order(page, told):
    """An order of a trace for a table."""
    name, *trace = told
    order = order_of(page[name], trace)
    return ["none"] if order is None else [" ".join(figures(call)) for call in order]


ANSWERS = {
    "tell": tell_block, "alike": tell_alike, "lone": tell_lone, "lost": tell_lost, "ring": tell_ring,
    "follows": tell_follows, "word": tell_word, "ends": tell_ends, "mend": tell_mend, "order": tell_order,
}
