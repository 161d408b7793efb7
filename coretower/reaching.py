"""Shortest runs to the standings of a web."""


def found_from(web):
    """A dict from the standings that runs lead to, in the order of a breadth-first search.

    It tells for each the standing and the deed from which it was found first; None for standing 0.
    """
    back = {0: None}
    waiting = [0]
    at = 0
    while at < len(waiting):
        stand = waiting[at]
        for deed, goal in web.moves(stand):
            if goal not in back:
                back[goal] = (stand, deed)
                waiting.append(goal)
        at += 1
    return back


def run_to(stand, back):
    """The run by which a standing was found first."""
    run = []
    while back[stand] is not None:
        stand, deed = back[stand]
        run.append(deed)
    return run[::-1]
