"""Ways to run: in order, by a book, or by a recipe."""

from coretower.books import KINDS, WRITES


class Way:
    """Which book keeps orders, what is issued for what, and the window.

    In order there is no book: fences do nothing, and no two entries are pending.
    """

    def __init__(self, target, rows, fence_rows, window):
        self.target = target
        self.window = window
        self._kind_rows = rows
        self._fence_rows = fence_rows

    def kind_row(self, kind):
        """The fences ahead, the kind and the fences behind that are issued for an access of a kind."""
        return self._kind_rows[kind]

    def fence_row(self, name):
        """The fences that are issued for a fence, or when a call becomes ready for "return"."""
        return self._fence_rows.get(name, ())

    def keeps_order(self, first, second, between):
        """Whether the order of two kinds is kept over some fences."""
        return self.target is not None and self.target.keeps(first, second, between=between)

    def frees_return(self, kinds, gaps):
        """Whether pending entries of these kinds, with the fences ahead of each and behind them, let a return by."""
        if self.target is None:
            return not kinds
        for at, kind in enumerate(kinds):
            if kind not in WRITES or self.keeps_order(kind, "return", fences_of(gaps[at + 1:])):
                return False
        return True


def way_of(book, recipe, window):
    """The way by a book or a recipe; in order, if both are None."""
    if recipe is not None:
        names = recipe.source.fences() + ["return"]
        rows = {kind: recipe[kind] for kind in KINDS}
        return Way(recipe.target, rows, {name: recipe[name] for name in names}, window)
    rows = {kind: ((), kind, ()) for kind in KINDS}
    if book is None:
        return Way(None, rows, {}, 1)
    return Way(book, rows, {name: (name,) for name in book.fences()}, window)


def fences_of(gaps):
    """The ascending tuple of all fences in some gaps."""
    return tuple(sorted({name for gap in gaps for name in gap}))
