"""Books: which accesses of a caller a machine keeps in their order."""

from coretower.errors import BadFence, BadPair, NoFence, TooLarge
from coretower.kinds import is_name

READS = ("read", "acquire")
WRITES = ("write", "release")
KINDS = ("read", "acquire", "write", "release", "both")
PAIRS = (
    ("read", "read"), ("read", "acquire"), ("read", "write"), ("read", "release"), ("read", "both"),
    ("acquire", "read"), ("acquire", "acquire"), ("acquire", "write"), ("acquire", "release"), ("acquire", "both"),
    ("write", "read"), ("write", "acquire"), ("write", "write"), ("write", "release"), ("write", "both"),
    ("write", "return"),
    ("release", "read"), ("release", "acquire"), ("release", "write"), ("release", "release"), ("release", "both"),
    ("release", "return"),
    ("both", "read"), ("both", "acquire"), ("both", "write"), ("both", "release"), ("both", "both"),
)
FULL = "full"
MOST_FENCES = 2


class Pairs:
    """A set of pairs of kinds, or of a write kind and "return"."""

    def __init__(self, pairs=()):
        for item in pairs:
            if item not in PAIRS:
                raise BadPair(item)
        self._pairs = [pair for pair in PAIRS if pair in pairs]

    def __contains__(self, x):
        return x in self._pairs

    def __len__(self):
        return len(self._pairs)

    def __iter__(self):
        return iter(self._pairs)

    def __and__(self, other):
        return Pairs([pair for pair in self._pairs if pair in other._pairs])

    def __or__(self, other):
        return Pairs(self._pairs + other._pairs)

    def __sub__(self, other):
        return Pairs([pair for pair in self._pairs if pair not in other._pairs])

    def within(self, other):
        """Whether other has all of these pairs."""
        return all([pair in other for pair in self._pairs])

    @staticmethod
    def between(firsts, seconds):
        """All pairs with a first one of the firsts and a second one of the seconds."""
        return Pairs([pair for pair in PAIRS if pair[0] in firsts and pair[1] in seconds])


class Book:
    """The pairs that are kept, and those that fences keep."""

    def __init__(self, kept, *, fences=None):
        further = {} if fences is None else dict(fences)
        if len(further) > MOST_FENCES:
            raise TooLarge(MOST_FENCES)
        for name in sorted(further):
            if name == FULL or not is_fence_name(name):
                raise BadFence(name)
        self.kept = kept
        self._fences = {**further, FULL: Pairs(PAIRS)}

    def fences(self):
        """The ascending list of all fences."""
        return sorted(self._fences)

    def fence(self, name):
        """The pairs that a fence keeps."""
        if not is_name(name) or name not in self._fences:
            raise NoFence(name)
        return self._fences[name]

    def keeps(self, first, second, *, between=()):
        """Whether the order of two kinds is kept over some fences."""
        pair = (first, second)
        if pair not in PAIRS:
            raise BadPair(pair)
        kept = [pair in self.fence(name) for name in between]
        return pair in self.kept or any(kept)

    @staticmethod
    def strict():
        """The book that keeps all pairs."""
        return Book(Pairs(PAIRS))

    @staticmethod
    def buffered():
        """The book by which a write may be held up behind later reads, and behind the return."""
        return Book(Pairs(PAIRS) - Pairs.between(WRITES, READS + ("return",)))

    @staticmethod
    def loose():
        """The book that keeps what stands behind an "acquire" and what stands ahead of a "release"."""
        return Book(Pairs([pair for pair in PAIRS if pair[0] == "acquire" or pair[1] == "release"]))


def is_fence_name(name):
    """Whether this, any value, can be the name of a fence."""
    return is_name(name) and name not in KINDS and name != "return"
