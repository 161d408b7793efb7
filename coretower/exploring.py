"""The web of what runs by told rules: its standings are found and numbered by a breadth-first search."""

from coretower.errors import TooLarge
from coretower.webs import MOST_STANDINGS, Web


class Explored:
    """All states that a machine comes to, in the order in which they are found, and their web.

    The machine tells its first state, `moved` tells what a deed leads to, and `able_deeds` all deeds of a state,
    ascending.
    """

    def __init__(self, machine):
        first = machine.begin()
        self.stands = [first]
        numbers = {first: 0}
        rows = []
        while len(rows) < len(self.stands):
            state = self.stands[len(rows)]
            row = []
            for deed in machine.able_deeds(state):
                goal = machine.moved(state, deed)
                if goal not in numbers:
                    if len(self.stands) == MOST_STANDINGS:
                        raise TooLarge(MOST_STANDINGS)
                    numbers[goal] = len(self.stands)
                    self.stands.append(goal)
                row.append((deed, numbers[goal]))
            rows.append(row)
        self.web = Web(rows)
