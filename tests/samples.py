"""Webs for tests, and what the document says of them, worked out in the plainest way."""

import random

from coretower.webs import Web


def call(name, caller=0):
    return (caller, "call", name)


def back(answer, caller=0):
    return (caller, "return", answer)


def step(number=0, caller=0):
    return (caller, "step", number)


DEEDS = [call("a"), call("b"), back(0), step(0), step(1, 1)]


def visible(deed):
    return deed[1] != "step"


def random_rows(seed, most=5, deeds=tuple(DEEDS), chance=0.35):
    """The rows of a small web."""
    source = random.Random(seed)
    many = source.randint(1, most)
    return [[(deed, source.randrange(many)) for deed in deeds if source.random() < chance] for _ in range(many)]


def random_web(seed, **more):
    return Web(random_rows(seed, **more))


def moves_of(web):
    return [web.moves(at) for at in range(len(web))]


def plain_replies(rows, at, deed):
    """Point 4, word by word."""
    reached = {at}
    grown = True
    while grown:
        more = {goal for x in reached for other, goal in rows[x] if not visible(other)}
        grown = not more <= reached
        reached |= more
    return sorted({goal for x in reached for other, goal in rows[x] if other == deed})


def led_to(low, high, pair, move):
    """The pairs to which a pair and a move lead (point 6)."""
    deed, goal = move
    if not visible(deed):
        return [(goal, pair[1])]
    return [(goal, reply) for reply in plain_replies(high, pair[1], deed)]


def plain_rounds(low, high):
    """The reached pairs and their rounds (point 6), for lists of moves."""
    pairs, waiting = {(0, 0)}, [(0, 0)]
    while waiting:
        pair = waiting.pop()
        for move in low[pair[0]]:
            for other in led_to(low, high, pair, move):
                if other not in pairs:
                    pairs.add(other)
                    waiting.append(other)
    rounds = {}
    number = 1
    while True:
        failing = [pair for pair in pairs if pair not in rounds and any(
            all(other in rounds for other in led_to(low, high, pair, move)) for move in low[pair[0]])]
        if not failing:
            return {pair: rounds.get(pair, 0) for pair in pairs}
        rounds.update(dict.fromkeys(failing, number))
        number += 1


def plain_sets(low, high):
    """The reached sets (point 8), and the length of a shortest run with a history that high lacks, or None."""
    start = (0, (0,))
    found, level, length, shortest = {start}, [start], 0, None
    while level:
        length += 1
        longer = []
        for at, stands in level:
            for deed, goal in low[at]:
                after = stands
                if visible(deed):
                    after = tuple(sorted({reply for x in stands for reply in plain_replies(high, x, deed)}))
                if not after:
                    shortest = shortest or length
                elif (goal, after) not in found:
                    found.add((goal, after))
                    longer.append((goal, after))
        level = longer
    return sorted(found), shortest


def determined(rows):
    """The rows of a web with the same histories that settles nothing before it is shown."""
    numbers, order, made = {(0,): 0}, [(0,)], []
    for stands in order:
        made.append([])
        for deed in sorted({deed for row in rows for deed, _ in row if visible(deed)}):
            after = tuple(sorted({reply for x in stands for reply in plain_replies(rows, x, deed)}))
            if after:
                if after not in numbers:
                    numbers[after] = len(order)
                    order.append(after)
                made[-1].append((deed, numbers[after]))
    return made


def sample_pair(seed):
    """Two small webs; each word comes up often."""
    high = random_web(seed + 5000, chance=0.45)
    if seed % 3:
        return random_web(seed, chance=0.15 + seed % 4 * 0.08), high
    high = random_web(seed + 5000, most=8, chance=0.5)
    return Web(determined(moves_of(high))), high


def is_paper(low, high, pairs):
    """Whether a set of pairs is a paper (point 5), for lists of moves."""
    return (0, 0) in pairs and all(
        any(other in pairs for other in led_to(low, high, pair, move)) for pair in pairs for move in low[pair[0]])


def runs_of(rows, most):
    """All runs of at most so many deeds."""
    level = [([], 0)]
    found = [([], 0)]
    for _ in range(most):
        level = [(run + [deed], goal) for run, at in level for deed, goal in rows[at]]
        found += level
    return found


def row_of(many, deed):
    """A web in which one deed leads through so many standings, and no further."""
    return Web([[(deed, at + 1)] if at + 1 < many else [] for at in range(many)])


def ring_of(many, deed):
    return Web([[(deed, (at + 1) % many)] for at in range(many)])
