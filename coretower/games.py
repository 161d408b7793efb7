"""Games: whether a web answers as another one does, and how it is beaten if not."""

from coretower.errors import BadReply
from coretower.kinds import is_below, is_visible
from coretower.pairing import Pairing, Rounds
from coretower.papers import Paper
from coretower.subsets import Subsets

MOST_FOUND = 20000


class Game:
    """What can be told of the webs low and high from the rounds of their reached pairs."""

    def __init__(self, low, high):
        self.low = low
        self.high = high
        self._rounds = Rounds(Pairing(low, high, MOST_FOUND))
        self._subsets = None
        if self._rounds.numbers[(0, 0)] > 0:
            self._subsets = Subsets(low, high, MOST_FOUND)

    def word(self):
        """The word of low and high."""
        if self._subsets is None:
            return "at once"
        return "afterwards" if self._subsets.lost_run is None else "never"

    def rounds(self):
        """A dict from the reached pairs to their rounds."""
        return {pair: number for pair, number in self._rounds.numbers.items()}

    def paper(self):
        """The Paper of the reached pairs that never fail; None if the word is not "at once"."""
        if self._subsets is not None:
            return None
        return Paper(self.low, self.high, [pair for pair, number in self._rounds.numbers.items() if number == 0])

    def sets(self):
        """The ascending list of the reached sets."""
        if self._subsets is None:
            return Subsets(self.low, self.high, None).told()
        return self._subsets.told()

    def shortest(self):
        """A shortest run of low with a history that high does not have; None if the word is not "never"."""
        if self._subsets is None or self._subsets.lost_run is None:
            return None
        return list(self._subsets.lost_run)

    def spoiler(self):
        """A new Spoiler; None if the word is "at once"."""
        if self._subsets is None:
            return None
        return Spoiler(self.low, self.high, self._rounds.deeds)


class Spoiler:
    """Plays low from (0, 0) on so that whoever answers for high runs out of replies."""

    def __init__(self, low, high, deeds):
        self._low = low
        self._high = high
        self._deeds = deeds
        self._play((0, 0))

    def _play(self, pair):
        """Take the failing moves from a failing pair up to a visible one."""
        at, high_at = pair
        stretch = []
        while not stretch or not is_visible(stretch[-1]):
            deed = self._deeds[(at, high_at)]
            stretch.append(deed)
            at = self._low.goal(at, deed)
        self._stand = pair
        self._stretch = stretch
        self._goal = at
        self._replies = self._high.replies(high_at, stretch[-1])

    @property
    def stand(self):
        """The pair at which the stretch begins."""
        return self._stand

    @property
    def stretch(self):
        """The list of the deeds of low that are to be answered."""
        return list(self._stretch)

    @property
    def won(self):
        """Whether there is no reply to the last deed."""
        return len(self._replies) == 0

    def __call__(self, reply):
        if not is_below(reply, len(self._high)) or reply not in self._replies:
            raise BadReply(reply)
        self._play((self._goal, reply))
        return list(self._stretch)
