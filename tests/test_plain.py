import random
import unittest

from coretower.clients import always, once
from coretower.errors import BadClient, NoOperation, TooLarge
from coretower.exploring import Explored
from coretower.plain import plain_web
from coretower.shapes import Ticket, table_of
from coretower.tables import Table
from tests.samples import back, call, moves_of, step

COUNT = Table({"up": [(0, 1), (1, 0)], "get": [(7, 0), (8, 1)]}, 1)


def plain_moves(table, client):
    """Point 27 in the plainest way: standings are dicts, compared as wholes."""
    standings = [{"at": table.first, "callers": [{"menu": 0, "name": None, "answer": None} for _ in client]}]
    rows = []
    for standing in standings:
        row = []
        for at, caller in enumerate(standing["callers"]):
            menus, again = client[at]
            after = dict(caller, name=None, answer=None)
            if caller["answer"] is not None:
                row.append(((at, "return", caller["answer"]), standing["at"], at, after))
            elif caller["name"] is not None:
                answer, goal = table(caller["name"], standing["at"])
                row.append(((at, "step", 0), goal, at, dict(after, answer=answer)))
            elif caller["menu"] < len(menus):
                menu = caller["menu"] + 1
                menu = 0 if again and menu == len(menus) else menu
                row += [((at, "call", name), standing["at"], at, dict(after, name=name, menu=menu))
                        for name in menus[caller["menu"]]]
        rows.append([])
        for deed, state, at, after in sorted(row, key=lambda move: move[0]):
            callers = standing["callers"][:at] + [after] + standing["callers"][at + 1:]
            goal = {"at": state, "callers": callers}
            if goal not in standings:
                standings.append(goal)
            rows[-1].append((deed, standings.index(goal)))
    return rows


class Counter:
    """A machine that counts up to a number of standings."""

    def __init__(self, many):
        self.many = many

    def begin(self):
        return 0

    def able_deeds(self, state):
        return [step()] if state < self.many - 1 else []

    def moved(self, state, deed):
        return state + 1


class PlainTest(unittest.TestCase):
    def test_one_call(self):
        self.assertEqual(moves_of(plain_web(COUNT, [once("up")])),
                         [[(call("up"), 1)], [(step(), 2)], [(back(1), 3)], []])

    def test_a_menu_and_again(self):
        self.assertEqual(moves_of(plain_web(COUNT, [((("up", "get"), ("get",)), True)])), [
            [(call("get"), 1), (call("up"), 2)], [(step(), 3)], [(step(), 4)], [(back(8), 5)], [(back(1), 6)],
            [(call("get"), 7)], [(call("get"), 8)], [(step(), 9)], [(step(), 10)], [(back(8), 0)], [(back(7), 11)],
            [(call("get"), 12), (call("up"), 13)], [(step(), 14)], [(step(), 15)], [(back(7), 6)], [(back(0), 5)]])

    def test_webs_are_those_of_the_document(self):
        for seed in range(25):
            source = random.Random(seed)
            size = source.randint(1, 3)
            names = ("f", "g", "h")[:source.randint(1, 3)]
            table = Table({name: [(source.randrange(2), source.randrange(size)) for _ in range(size)] for name in names},
                          source.randrange(size))
            client = [source.choice([once(source.choice(names)), always(*names), once(names[0], names[-1]),
                                     ((names[:1], names, names[-1:]), True)]) for _ in range(source.randint(1, 3))]
            with self.subTest(seed=seed):
                web = plain_web(table, client)
                if len(web) < 400:
                    self.assertEqual(moves_of(web), plain_moves(table, client))

    def test_refusals(self):
        with self.assertRaises(BadClient) as caught:
            plain_web(COUNT, [once("nope"), once()])
        self.assertEqual(caught.exception.caller, 1)
        with self.assertRaises(NoOperation) as caught:
            plain_web(table_of(Ticket(9)), [always("up", "look"), always("up", "x")] * 1)
        self.assertEqual(caught.exception.name, "x")
        with self.assertRaises(TooLarge) as caught:
            plain_web(table_of(Ticket(9)), [always("up", "look")] * 3)
        self.assertEqual(caught.exception.bound, 4000)

    def test_the_bound(self):
        self.assertEqual(len(Explored(Counter(4000)).web), 4000)
        with self.assertRaises(TooLarge) as caught:
            Explored(Counter(4001))
        self.assertEqual(caught.exception.bound, 4000)


if __name__ == "__main__":
    unittest.main()
