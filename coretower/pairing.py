"""The reached pairs of two webs, and the rounds in which they fail."""

from coretower.errors import TooLarge
from coretower.kinds import is_visible
from coretower.replymaps import ReplyMap


class Pairing:
    """The reached pairs of low and high, as knots of a net that tells what must fail before what.

    A knot is a pair, or all the answers to one visible move: that the next standing of low meets each reply of
    a node of high's reply map. A pair fails when one of the knots that it waits for has failed; the answers to
    a move have failed when all of the knots that they wait for have. The answers share their knots as the
    replies share their nodes, so the net stays small where each of many pairs leads to each of many.
    """

    def __init__(self, low, high, bound):
        self.pairs = {}
        # For each knot, the knots that wait for it: a pair with the deed of its move, answers with None.
        self.waiting = []
        # For each knot of answers, how many of the knots that it waits for have not failed yet.
        self.needed = []
        # The pairs with a move that has no reply, with its deed.
        self.beaten = []
        self._low = low
        self._replies = ReplyMap(high)
        self._bound = bound
        self._answers = {}
        self._fresh_pairs = []
        self._fresh_answers = []
        self._pair(0, 0)
        while self._fresh_pairs:
            self._spread_pair(self._fresh_pairs.pop())
            while self._fresh_answers:
                self._spread_answers(self._fresh_answers.pop())

    def _pair(self, at, high_at):
        """The knot of a pair, which is a reached one from now on."""
        pair = (at, high_at)
        if pair not in self.pairs:
            if len(self.pairs) == self._bound:
                raise TooLarge(self._bound)
            self.pairs[pair] = self._knot(0)
            self._fresh_pairs.append(pair)
        return self.pairs[pair]

    def _answers_of(self, goal, node):
        """The knot of the answers of a node to a move of low that leads to the goal."""
        answers = (goal, node)
        if answers not in self._answers:
            self._answers[answers] = self._knot(len(self._replies.own[node]) + len(self._replies.below[node]))
            self._fresh_answers.append(answers)
        return self._answers[answers]

    def _knot(self, needed):
        self.waiting.append([])
        self.needed.append(needed)
        return len(self.needed) - 1

    def _wait(self, knot, first, deed):
        self.waiting[first].append((knot, deed))

    def _spread_pair(self, pair):
        at, high_at = pair
        knot = self.pairs[pair]
        for deed, goal in self._low.moves(at):
            if not is_visible(deed):
                self._wait(knot, self._pair(goal, high_at), deed)
                continue
            node = self._replies.node(high_at, deed)
            if node is None:
                self.beaten.append((knot, deed))
            else:
                self._wait(knot, self._answers_of(goal, node), deed)

    def _spread_answers(self, answers):
        goal, node = answers
        knot = self._answers[answers]
        for reply in self._replies.own[node]:
            self._wait(knot, self._pair(goal, reply), None)
        for lower in self._replies.below[node]:
            self._wait(knot, self._answers_of(goal, lower), None)


class Rounds:
    """The round of each reached pair, and for each failing one a deed after which all pairs have failed before."""

    def __init__(self, pairing):
        numbers = {}
        deeds = {}
        needed = list(pairing.needed)
        hits = pairing.beaten
        number = 0
        while hits:
            number += 1
            later = []
            for knot, deed in list(hits):
                if knot not in numbers:
                    numbers[knot] = number
                    deeds[knot] = deed
                    later.extend(hits_after(knot, pairing.waiting, needed))
            hits = later
        self.numbers = {pair: numbers.get(pairing.pairs[pair], 0) for pair in sorted(pairing.pairs)}
        self.deeds = {pair: deeds[knot] for pair, knot in pairing.pairs.items() if knot in deeds}


def hits_after(knot, waiting, needed):
    """The pairs that fail a round after this one at the latest, with the deeds; counts down what answers need."""
    found = []
    failed = [knot]
    while failed:
        last = failed.pop()
        for later, deed in waiting[last]:
            if deed is not None:
                found.append((later, deed))
                continue
            needed[later] -= 1
            if needed[later] == 0:
                failed.append(later)
    return found
