"""Parts of a graph: the places that can reach each other."""


def parts_of(rows):
    """The number of the part of each place; an arrow from one part to another leads to a greater number."""
    back = [[] for _ in rows]
    for at, row in enumerate(rows):
        for goal in row:
            back[goal].append(at)
    parts = [-1 for _ in rows]
    many = 0
    for root in reversed(list(finished(rows))):
        if parts[root] < 0:
            mark_part(back, root, parts, many)
            many += 1
    return parts


def finished(rows):
    """All places in the order in which a depth-first search is through with them."""
    done = []
    seen = [False for _ in rows]
    for root in range(len(rows)):
        waiting = [(root, False)]
        while waiting:
            at, through = waiting.pop()
            if through:
                done.append(at)
            elif not seen[at]:
                seen[at] = True
                waiting.append((at, True))
                waiting.extend([(goal, False) for goal in rows[at] if not seen[goal]])
    return done


def mark_part(back, root, parts, number):
    """Give a number to all places without one that lead to the root."""
    parts[root] = number
    waiting = [root]
    while waiting:
        goal = waiting.pop()
        for at in back[goal]:
            if parts[at] < 0:
                parts[at] = number
                waiting.append(at)
