import itertools
import random
import unittest

from coretower.errors import NoOperation, OtherNames, SameName
from coretower.likeness import alike, least, likeness, parting, silent, trade
from coretower.shapes import Latch, Meter, Ticket, table_of
from coretower.tables import Table


def random_table(seed, names="pqr", most=5, answers=2):
    source = random.Random(seed)
    many = source.randint(1, most)
    return Table({name: [(source.randrange(answers), source.randrange(many)) for _ in range(many)] for name in names},
                 source.randrange(many))


def rows_of(table, names):
    return {name: [table(name, state) for state in range(table.size)] for name in names}


def shuffled(table, seed):
    """An alike table: its states stand twice, in another order, its operations are turned round."""
    source = random.Random(seed)
    many = table.size
    places = list(range(many * 2))
    source.shuffle(places)
    rows = {}
    for name in table.names()[::-1]:
        row = [None] * (many * 2)
        for state in range(many * 2):
            answer, goal = table(name, state % many)
            row[places[state]] = (answer, places[goal + many * source.randrange(2)])
        rows[name] = row
    return Table(rows, places[table.first + many])


def started(table, state):
    """The table with this state as its first one."""
    return Table(rows_of(table, table.names()), state)


def plain_parting(a, b, most):
    """Of the rows of at most so many calls, by length and then in a's order, the first that tells a and b apart."""
    for length in range(1, most + 1):
        for calls in itertools.product(a.names(), repeat=length):
            if a.answers(list(calls)) != b.answers(list(calls)):
                return list(calls)
    return None


def reached(table):
    found, waiting = {table.first}, [table.first]
    while waiting:
        state = waiting.pop()
        for name in table.names():
            goal = table(name, state)[1]
            if goal not in found:
                found.add(goal)
                waiting.append(goal)
    return found


class AlikeTest(unittest.TestCase):
    def test_small_ones(self):
        self.assertIs(alike(table_of(Ticket(3)), table_of(Ticket(3))), True)
        self.assertIs(alike(table_of(Ticket(3)), table_of(Ticket(4))), False)
        self.assertEqual(parting(table_of(Ticket(3)), table_of(Ticket(4))), ["up", "up", "up", "up"])
        self.assertIsNone(parting(table_of(Ticket(3)), table_of(Ticket(3))))
        self.assertIsNone(likeness(table_of(Ticket(3)), table_of(Ticket(4))))
        self.assertEqual(likeness(table_of(Latch(2)), table_of(Latch(2))), [(0, 0), (1, 1)])

    def test_first_of_the_shortest_rows_in_the_order_of_a(self):
        a = Table({"z": [(0, 1), (0, 1)], "m": [(0, 1), (1, 1)], "a": [(0, 0), (1, 1)]})
        b = Table({"a": [(0, 0)], "m": [(0, 0)], "z": [(0, 0)]})
        self.assertEqual(parting(a, b), ["z", "m"])
        self.assertEqual(parting(b, a), ["m", "a"])

    def test_the_last_call_tells_them_apart(self):
        a = Table({"p": [(0, 0)], "q": [(3, 0)]})
        b = Table({"q": [(4, 0)], "p": [(0, 0)]})
        self.assertEqual(parting(a, b), ["q"])

    def test_against_all_rows(self):
        unlike = 0
        for seed in range(300):
            a, b = random_table(seed, most=4), random_table(seed + 999, names="rpq", most=4)
            if seed % 3 == 0:
                b = Table(rows_of(shuffled(a, seed), "rqp"), shuffled(a, seed).first)
            row = plain_parting(a, b, 5)
            self.assertEqual(parting(a, b), row)
            self.assertEqual(alike(a, b), row is None)
            unlike += row is not None
            pairs = likeness(a, b)
            self.assertEqual(pairs is None, row is not None)
            if pairs is not None:
                self.assertEqual(pairs, sorted(set(pairs)))
                self.assertEqual({x for x, _ in pairs}, reached(a))
                self.assertEqual({y for _, y in pairs}, reached(b))
                self.assertIn((a.first, b.first), pairs)
                for x, y in pairs:
                    for name in "pqr":
                        self.assertEqual(a(name, x)[0], b(name, y)[0])
                        self.assertIn((a(name, x)[1], b(name, y)[1]), pairs)
                self.assertEqual(len(pairs), len(likeness(b, a)))
        self.assertGreater(unlike, 100)

    def test_only_what_rows_lead_to_counts(self):
        a = Table({"p": [(0, 0), (1, 0)]})
        b = Table({"p": [(0, 0), (2, 1)]})
        self.assertEqual((alike(a, b), likeness(a, b)), (True, [(0, 0)]))
        self.assertIs(alike(a, Table({"p": [(0, 0), (1, 0)]}, 1)), False)

    def test_circles_of_many_states(self):
        a, b = [Table({"p": [(0, (at + 1) % many) for at in range(many)]}) for many in (100, 99)]
        self.assertEqual(len(likeness(a, b)), 9900)
        c = Table({"p": [(int(at == 98), (at + 1) % 99) for at in range(99)]})
        self.assertEqual(parting(a, c), ["p"] * 99)

    def test_other_names(self):
        a = Table({"p": [(0, 0)], "q": [(0, 0)]})
        for names in (["p"], ["p", "r"], ["p", "q", "r"]):
            b = Table({name: [(5, 0)] for name in names})
            for ask in (alike, parting, likeness):
                for pair in ((a, b), (b, a)):
                    with self.assertRaises(OtherNames):
                        ask(*pair)


class LeastTest(unittest.TestCase):
    def test_states_that_nothing_leads_to_are_left_out(self):
        table = Table({"p": [(0, 3), (1, 0), (2, 2), (4, 0)]})
        told = least(table)
        self.assertEqual(rows_of(told, "p"), {"p": [(0, 1), (4, 0)]})
        self.assertEqual((told.first, told.names()), (0, ["p"]))

    def test_numbers_of_the_states(self):
        table = Table({"q": [(0, 2), (1, 1), (2, 1), (3, 0)], "p": [(0, 1), (0, 3), (0, 0), (0, 0)]}, 3)
        self.assertEqual(rows_of(least(table), "qp"), {"q": [(3, 1), (0, 2), (2, 3), (1, 3)],
                                                       "p": [(0, 1), (0, 3), (0, 1), (0, 0)]})

    def test_alike_states_become_one(self):
        self.assertEqual(least(Table({"p": [(7, (at + 1) % 100) for at in range(100)]})).size, 1)
        self.assertEqual(least(Table({"p": [(at % 2, (at + 1) % 100) for at in range(100)]})).size, 2)

    def test_chains_and_circles_of_100_states(self):
        chain = Table({"p": [(int(at == 99), min(at + 1, 99)) for at in range(100)]})
        self.assertEqual(rows_of(least(chain), "p"), rows_of(chain, "p"))
        circle = Table({"p": [(int(at == 0), (at - 1) % 100) for at in range(100)]}, 7)
        told = least(circle)
        self.assertEqual((told.size, told.first), (100, 0))
        self.assertEqual(rows_of(told, "p"), {"p": [(int(at == 7), (at + 1) % 100) for at in range(100)]})
        turned = Table({"p": [(int(at == 0), (at + 1) % 100) for at in range(100)],
                        "q": [(0, 99) for at in range(100)]})
        self.assertEqual(least(turned).size, 100)
        self.assertTrue(alike(least(turned), turned))

    def test_against_the_words_of_point_11(self):
        for seed in range(200):
            table = random_table(seed)
            told = least(table)
            self.assertTrue(alike(told, table))
            self.assertEqual((told.first, told.names()), (0, table.names()))
            classes = []
            for state in reached(table):
                if not any(plain_parting(started(table, state), started(table, other), 5) is None for other in classes):
                    classes.append(state)
            self.assertEqual(told.size, len(classes))
            order = [0]
            for state in order:
                for name in told.names():
                    goal = told(name, state)[1]
                    if goal not in order:
                        order.append(goal)
            self.assertEqual(order, list(range(told.size)))
            other = least(shuffled(table, seed))
            self.assertEqual(other.size, told.size)
            self.assertTrue(alike(other, told))


class TradeTest(unittest.TestCase):
    def test_small_ones(self):
        meter = table_of(Meter(3))
        self.assertIs(trade(meter, "up", "look"), False)
        self.assertIs(silent(meter, "look"), True)
        self.assertIs(silent(meter, "up"), False)
        self.assertIs(silent(meter, "clear"), False)
        self.assertIs(silent(table_of(Meter(1)), "clear"), True)
        table = Table({"p": [(0, 1), (0, 0)], "q": [(5, 0), (5, 1)]})
        self.assertIs(trade(table, "p", "q"), True)
        self.assertIs(trade(table, "q", "p"), True)

    def test_each_of_the_three_parts(self):
        answer_of_p = Table({"p": [(0, 0), (1, 1)], "q": [(0, 1), (0, 1)]})
        self.assertIs(trade(answer_of_p, "p", "q"), False)
        self.assertIs(trade(answer_of_p, "q", "p"), False)
        ends = Table({"p": [(0, 1), (0, 1), (0, 1)], "q": [(0, 2), (0, 2), (0, 2)], "r": [(0, 0), (1, 1), (2, 2)]})
        self.assertIs(trade(ends, "p", "q"), False)
        alike_ends = ends.only(["p", "q"])
        self.assertIs(trade(alike_ends, "p", "q"), True)

    def test_only_states_that_can_be_reached_count(self):
        rows = {"p": [(0, 0), (0, 2), (0, 2)], "q": [(0, 0), (1, 1), (2, 2)], "r": [(0, 0), (0, 1), (0, 2)]}
        self.assertIs(trade(Table(rows), "p", "q"), True)
        self.assertIs(silent(Table(rows), "p"), True)
        self.assertIs(trade(Table(rows, 1), "p", "q"), False)
        self.assertIs(silent(Table(rows, 1), "p"), False)

    def test_against_the_words_of_point_12(self):
        found = {True: 0, False: 0}
        for seed in range(300):
            table = random_table(seed, names="pq", most=4) if seed % 2 else shuffled(random_table(seed, "pq", 2), seed)
            names = table.names()

            def same(x, y):
                return plain_parting(started(table, x), started(table, y), 8) is None
            trades, silents = True, True
            for state in reached(table):
                (p, at), (q, other) = table("p", state), table("q", state)
                (q_then, end), (p_then, other_end) = table("q", at), table("p", other)
                trades = trades and p == p_then and q == q_then and same(end, other_end)
                silents = silents and same(at, state)
            self.assertEqual(sorted(names), ["p", "q"])
            self.assertIs(trade(table, "p", "q"), trades)
            self.assertIs(trade(table, "q", "p"), trades)
            self.assertIs(silent(table, "p"), silents)
            found[trades] += 1
        self.assertGreater(min(found.values()), 20)

    def test_errors_in_their_order(self):
        table = table_of(Ticket(2))
        for p, q, name in (("no", "other", "no"), ("up", "other", "other"), ("no", "up", "no"), ("no", "no", "no")):
            with self.assertRaises(NoOperation) as caught:
                trade(table, p, q)
            self.assertEqual(caught.exception.name, name)
        with self.assertRaises(SameName) as caught:
            trade(table, "up", "up")
        self.assertEqual(caught.exception.name, "up")
        with self.assertRaises(NoOperation) as caught:
            silent(table, "no")
        self.assertEqual(caught.exception.name, "no")


if __name__ == "__main__":
    unittest.main()
