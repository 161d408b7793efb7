"""What points 39 and 40 tell of webs, worked out in the plainest way: every round is looked for by what it has."""

import random


def plain_regular(rows):
    """Whether a web is regular; follows runs together with who has an open call."""
    found, waiting = {(0, frozenset())}, [(0, frozenset())]
    while waiting:
        at, callers = waiting.pop()
        for (caller, word, _), goal in rows[at]:
            if word != "step" and (caller in callers) == (word == "call"):
                return False
            after = callers | {caller} if word == "call" else callers - {caller} if word == "return" else callers
            if (goal, after) not in found:
                found.add((goal, after))
                waiting.append((goal, after))
    return len({at for at, _ in found}) == len(found)


def plain_open(rows):
    """The standings that runs lead to, and who has an open call there."""
    found, waiting = {0: frozenset()}, [0]
    while waiting:
        at = waiting.pop()
        for (caller, word, _), goal in rows[at]:
            after = found[at]
            after = after | {caller} if word == "call" else after - {caller} if word == "return" else after
            if goal not in found:
                found[goal] = after
                waiting.append(goal)
    return found


def able_at(rows, at):
    return frozenset(deed[0] for deed, _ in rows[at])


def plain_rounds_of(rows):
    """For each standing, what the rounds from it back to it have: who returned, who acted or was not able somewhere."""
    rounds = {}
    everyone = frozenset((0, 1, 2))
    for start in plain_open(rows):
        begin = (start, frozenset(), everyone - able_at(rows, start))
        found, waiting = set(), [begin]
        rounds[start] = set()
        while waiting:
            at, returned, counted = waiting.pop()
            for (caller, word, _), goal in rows[at]:
                after = (goal, returned | {caller} if word == "return" else returned,
                         counted | {caller} | (everyone - able_at(rows, goal)))
                if after not in found:
                    found.add(after)
                    waiting.append(after)
                    if goal == start:
                        rounds[start].add(after[1:])
    return rounds


def plain_ends(rows):
    """The words of point 40 as a dict."""
    opened = plain_open(rows)
    rounds = [(at, returned, counted) for at, found in plain_rounds_of(rows).items() for returned, counted in found]
    stay = [(caller, counted) for at, returned, counted in rounds for caller in opened[at] - returned]
    return {
        "stuck": any(opened[at] and not rows[at] for at in opened),
        "some": all(returned for _, returned, _ in rounds),
        "each": not any(caller in counted for caller, counted in stay),
        "fair": not any(len(counted) == 3 for _, counted in stay),
        "singly": all(comes_back(rows, at, caller) for at in opened for caller in opened[at]),
    }


def comes_back(rows, at, caller):
    """Whether a caller alone comes to its return, whatever its deeds: no way of its own is longer than the web."""
    level = {at}
    for _ in range(len(rows) + 1):
        after = set()
        for stand in level:
            moves = [(deed, goal) for deed, goal in rows[stand] if deed[0] == caller]
            if not moves:
                return False
            after |= {goal for deed, goal in moves if deed[1] != "return"}
        level = after
    return not level


def excluded(rows, word, stem, deeds):
    """Whether a stem and a round are such as the word excludes, by point 40."""
    goals = [dict(row) for row in rows]
    at, callers = 0, frozenset()
    for deed in stem:
        at = goals[at][deed]
        callers = callers | {deed[0]} if deed[1] == "call" else callers - {deed[0]} if deed[1] == "return" else callers
    start, returned, counted = at, set(), set()
    for deed in deeds:
        counted |= {deed[0]} | ({0, 1, 2} - able_at(rows, at))
        returned |= {deed[0]} if deed[1] == "return" else set()
        at = goals[at][deed]
    if not deeds or at != start:
        return False
    if word == "some":
        return not returned
    stay = callers - returned
    return bool(stay & counted) if word == "each" else bool(stay) and len(counted) == 3


def regular_rows(seed, most=6, callers=2, chance=0.5):
    """The rows of a small regular web; not all standings need be reached."""
    source = random.Random(seed)
    many = source.randint(1, most)
    opened = [frozenset()] + [frozenset(caller for caller in range(callers) if source.random() < 0.6)
                              for _ in range(many - 1)]
    rows = []
    for at in range(many):
        row = {}
        for goal in range(many):
            differ = opened[at] ^ opened[goal]
            if len(differ) > 1 or source.random() > chance:
                continue
            caller = min(differ) if differ else source.randrange(callers)
            if not differ:
                deed = (caller, "step", source.randrange(2))
            elif caller in opened[goal]:
                deed = (caller, "call", source.choice("ab"))
            else:
                deed = (caller, "return", source.randrange(2))
            row[deed] = goal
        rows.append(sorted(row.items()))
    return rows
