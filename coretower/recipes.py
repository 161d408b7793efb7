"""Recipes: how a compiler brings accesses and fences of one book under another."""

from coretower.books import FULL, KINDS, READS, WRITES
from coretower.errors import BadNumber, BadRow, NoRow, OtherBook
from coretower.kinds import is_below

RETURN = "return"
MOST_ADDITIONS = 2


class Recipe:
    """A source book, a target book, and for each name what a machine issues instead."""

    def __init__(self, source, target):
        self.source = source
        self.target = target
        self._rows = {kind: ((), kind, ()) for kind in KINDS}
        self._rows[RETURN] = ()
        for fence in source.fences():
            self._rows[fence] = (fence if fence in target.fences() else FULL,)
        self._names = sorted(self._rows)

    def __iter__(self):
        return iter(self._names)

    def __getitem__(self, at):
        if at not in self._names:
            raise NoRow(at)
        return self._rows[at]

    def __setitem__(self, at, worth):
        if at not in self._names:
            raise NoRow(at)
        if not is_row(at, worth, self.target.fences()):
            raise BadRow(at)
        self._rows[at] = tidy_row(worth)

    def __ior__(self, other):
        for name in self._names:
            if name not in other._names:
                raise NoRow(name)
        fences = self.target.fences()
        for name in self._names:
            row = other._rows[name]
            if kind_of(row) != kind_of(self._rows[name]) or not is_row(name, row, fences):
                raise BadRow(name)
        self._rows = {name: joint_row(self._rows[name], other._rows[name]) for name in self._names}
        return self

    def then(self, second):
        """The recipe that does this one and then the second one."""
        if not same_books(self.target, second.source):
            raise OtherBook()
        joint = Recipe(self.source, second.target)
        for name in self._names:
            joint[name] = put_behind(name, self._rows[name], second)
        return joint


def is_row(name, row, fences):
    """Whether this, any value, can be the row of a name, but for the order of its fences."""
    if not isinstance(row, tuple):
        return False
    if name not in KINDS:
        return all([fence in fences for fence in row])
    if len(row) != 3 or not isinstance(row[0], tuple) or not isinstance(row[2], tuple):
        return False
    return row[1] in group_of(name) and all([fence in fences for fence in row[0] + row[2]])


def group_of(kind):
    """The kinds of the same group."""
    if kind in READS:
        return READS
    return WRITES if kind in WRITES else (kind,)


def kind_of(row):
    """The kind in the row of a kind; None for other rows."""
    if len(row) == 3 and isinstance(row[0], tuple):
        return row[1]
    return None


def tidy(fences):
    """The tuple of these fences, ascending and without duplicates."""
    return tuple(sorted(set(fences)))


def tidy_row(row):
    """The row with its fences ascending and without duplicates."""
    if kind_of(row) is None:
        return tidy(row)
    ahead, kind, behind = row
    return (tidy(ahead), kind, tidy(behind))


def joint_row(row, more):
    """A row with the fences of another one for the same name, on their sides."""
    if kind_of(row) is None:
        return tidy(row + more)
    return (tidy(row[0] + more[0]), row[1], tidy(row[2] + more[2]))


def same_books(a, b):
    """Whether two books have the same kept pairs and the same fences."""
    if list(a.kept) != list(b.kept) or a.fences() != b.fences():
        return False
    return all([list(a.fence(name)) == list(b.fence(name)) for name in a.fences()])


def put_behind(name, row, second):
    """What a second recipe makes of the row of a name."""
    if name in KINDS:
        ahead, kind, behind = second[row[1]]
        return (fences_by(row[0], second) + ahead, kind, behind + fences_by(row[2], second))
    if name == RETURN:
        return fences_by(row, second) + second[RETURN]
    return fences_by(row, second)


def fences_by(fences, recipe):
    """The fences that a recipe puts for these."""
    return tuple([other for fence in fences for other in recipe[fence]])


def lost(recipe):
    """The list of the lost pairs, by first, fence and second."""
    found = []
    for first in KINDS:
        for fence in [None] + recipe.source.fences():
            found.extend([pair for pair in pairs_of(recipe.source, first, fence) if is_lost(recipe, pair)])
    return found


def pairs_of(book, first, fence):
    """The pairs of a recipe with a source book, a first kind and a fence or None."""
    kept = book.kept if fence is None else book.fence(fence) - book.kept
    return [(first, fence, second) for kind, second in kept if kind == first]


def is_lost(recipe, pair):
    """Whether a pair of a recipe is lost."""
    first, fence, second = pair
    _, first_kind, between = recipe[first]
    if fence is not None:
        between = between + recipe[fence]
    if second == RETURN:
        second_kind = RETURN
        between = between + recipe[RETURN]
    else:
        ahead, second_kind, _ = recipe[second]
        between = between + ahead
    return not recipe.target.keeps(first_kind, second_kind, between=between)


def additions(recipe):
    """The ascending list of the new additions."""
    found = []
    for name in recipe:
        row = recipe[name]
        sides = [("ahead", row[0]), ("behind", row[2])] if name in KINDS else [("row", row)]
        for side, fences in sides:
            found.extend([(name, side, fence) for fence in recipe.target.fences() if fence not in fences])
    return found


def added(recipe, chosen):
    """A new recipe with some additions."""
    for addition in chosen:
        if not is_addition(recipe, addition):
            raise BadRow(addition[0])
    joint = Recipe(recipe.source, recipe.target)
    for name in recipe:
        joint[name] = recipe[name]
    for name, side, fence in chosen:
        row = joint[name]
        if side == "ahead":
            joint[name] = (row[0] + (fence,), row[1], row[2])
        elif side == "behind":
            joint[name] = (row[0], row[1], row[2] + (fence,))
        else:
            joint[name] = row + (fence,)
    return joint


def is_addition(recipe, addition):
    """Whether this is an addition to a recipe, new or not."""
    if not isinstance(addition, tuple) or len(addition) != 3:
        return False
    name, side, fence = addition
    if name not in list(recipe) or fence not in recipe.target.fences():
        return False
    return side in ("ahead", "behind") if name in KINDS else side == "row"


def fewest(recipe, most):
    """The list of all smallest sets of at most so many new additions with which no pair is lost."""
    if not is_below(most, MOST_ADDITIONS + 1):
        raise BadNumber(most)
    open_pairs = lost(recipe)
    if not open_pairs:
        return [()]
    if most == 0:
        return []
    news = additions(recipe)
    # A fence that keeps a pair keeps it whatever else is added, so the additions can be looked at one by one.
    left = {addition: lost_still(added(recipe, [addition]), open_pairs) for addition in news}
    single = [(addition,) for addition in news if not left[addition]]
    if single or most == 1:
        return single
    return [(a, b) for at, a in enumerate(news) for b in news[at + 1:] if not both_lose(left[a], left[b])]


def lost_still(recipe, pairs):
    """Those of the pairs that the recipe loses."""
    return [pair for pair in pairs if is_lost(recipe, pair)]


def both_lose(pairs, others):
    """Whether a pair is in both lists."""
    return any([pair in others for pair in pairs])
