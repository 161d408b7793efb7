import random
import unittest

from coretower.errors import BadNumber, BadTable, NoOperation, SameName, TooLarge
from coretower.tables import Table

FLIP = {"flip": [(0, 1), (1, 0)], "look": [(0, 0), (1, 1)]}
NO_NAMES = ["", "abcdefghi", "A", "a1", "a b", "a_", "\u00e4", "a\n", 1, True, None, ("a",)]
NO_NUMBERS = [-1, 10, True, False, None, "1", 1.0, (1,), [1]]


def random_table(source, names, many):
    rows = {name: [(source.randrange(10), source.randrange(many)) for _ in range(many)] for name in names}
    return Table(rows, source.randrange(many))


def keep(states, answer=0):
    return [(answer, state) for state in range(states)]


class MakingTest(unittest.TestCase):
    def bad(self, name, rows, first=0):
        with self.assertRaises(BadTable) as caught:
            Table(rows, first)
        self.assertEqual(caught.exception.name, name)

    def test_numbers_of_operations(self):
        self.assertEqual(Table({"a": keep(1)}).names(), ["a"])
        self.assertEqual(len(Table({name: keep(1) for name in "abcdef"}).names()), 6)
        self.bad("", {})
        self.bad("", {name: keep(1) for name in "abcdefg"})
        self.bad("", {name: None for name in ("A", 1, "c", "d", "e", "f", "g")}, "x")

    def test_numbers_of_states(self):
        self.assertEqual(Table({"a": keep(1)}).size, 1)
        self.assertEqual(Table({"a": keep(100)}).size, 100)
        self.bad("a", {"a": []})
        self.bad("a", {"a": keep(101)})
        self.bad("b", {"b": [], "a": keep(1)})

    def test_names_of_operations(self):
        for name in NO_NAMES:
            with self.subTest(name=name):
                self.bad(name, {"a": keep(1), name: keep(1), "b": keep(2), "C": None})
        self.assertEqual(Table({"abcdefgh": keep(1), "z": keep(1)}).names(), ["abcdefgh", "z"])

    def test_lists(self):
        for row in (None, 5, "ab", (), ((0, 0),), {0: (0, 0)}, tuple(keep(2))):
            with self.subTest(row=row):
                self.bad("b", {"a": keep(2), "b": row, "c": None})
                self.bad("b", {"b": row, "a": keep(2), "c": None})

    def test_pairs(self):
        pairs = [None, 5, "00", [0, 0], (), (0,), (0, 0, 0)]
        pairs += [(number, 0) for number in NO_NUMBERS]
        pairs += [(0, state) for state in [2, 9, 100] + NO_NUMBERS if state != 10]
        for pair in pairs:
            with self.subTest(pair=pair):
                self.bad("b", {"a": keep(2), "b": [(0, 0), pair], "c": []})
                self.bad("b", {"b": [pair, (0, 0)], "a": []})
        self.assertEqual(Table({"a": [(9, 1), (0, 0)]})("a", 0), (9, 1))

    def test_lists_of_unlike_length(self):
        self.bad("b", {"a": keep(2), "b": keep(3), "c": keep(1)})
        self.bad("c", {"a": keep(2), "b": keep(2), "c": keep(1)})

    def test_name_and_list_of_an_operation_go_ahead_of_the_next_operation(self):
        self.bad("b", {"a": keep(1), "b": None, "C": keep(1)})
        self.bad("B", {"a": keep(1), "B": keep(1), "c": None})

    def test_first_state(self):
        self.assertEqual(Table(FLIP).first, 0)
        self.assertEqual(Table(FLIP, 1).first, 1)
        self.assertEqual(Table(FLIP, first=1).first, 1)
        for first in [2] + NO_NUMBERS:
            with self.subTest(first=first):
                self.bad("", FLIP, first)
        self.bad("b", {"a": keep(1), "b": None}, 7)

    def test_what_is_given_is_copied_and_what_is_returned_is_new(self):
        rows = {"a": keep(2), "b": keep(2)}
        table = Table(rows)
        rows["a"][0] = (5, 1)
        rows["a"].append((0, 0))
        del rows["b"]
        self.assertEqual((table("a", 0), table.size, table.names()), ((0, 0), 2, ["a", "b"]))
        table.names().clear()
        table.answers(["a"]).clear()
        self.assertEqual((table.names(), table.answers(["a"])), (["a", "b"], [0]))


class TellingTest(unittest.TestCase):
    def test_names_in_the_order_of_the_dict(self):
        self.assertEqual(Table({"z": keep(1), "a": keep(1), "m": keep(1)}).names(), ["z", "a", "m"])

    def test_pairs(self):
        table = Table(FLIP)
        self.assertEqual([table(name, state) for name in FLIP for state in (0, 1)], FLIP["flip"] + FLIP["look"])

    def test_unknown_names_ahead_of_bad_states(self):
        table = Table(FLIP)
        for state in [2] + NO_NUMBERS:
            with self.assertRaises(BadNumber) as caught:
                table("flip", state)
            self.assertIs(caught.exception.number, state)
            for name in ("no", "", 1, None, ["flip"]):
                with self.assertRaises(NoOperation) as caught:
                    table(name, state)
                self.assertIs(caught.exception.name, name)

    def test_answers(self):
        self.assertEqual(Table(FLIP).answers(["look", "flip", "look", "flip", "flip"]), [0, 0, 1, 1, 0])
        self.assertEqual(Table(FLIP, 1).answers(["look", "flip", "look"]), [1, 1, 0])
        self.assertEqual(Table(FLIP).answers([]), [])
        with self.assertRaises(NoOperation) as caught:
            Table(FLIP).answers(["flip", "no", "other"])
        self.assertEqual(caught.exception.name, "no")

    def test_only(self):
        table = Table({"z": [(1, 1), (2, 0)], "a": keep(2, 3), "m": keep(2, 4)}, 1)
        told = table.only(["m", "z", "m"])
        self.assertEqual((told.names(), told.size, told.first), (["z", "m"], 2, 1))
        self.assertEqual((told("z", 0), told("m", 1)), ((1, 1), (4, 1)))
        self.assertEqual(table.names(), ["z", "a", "m"])
        with self.assertRaises(NoOperation) as caught:
            table.only(["z", "no", "other"])
        self.assertEqual(caught.exception.name, "no")
        with self.assertRaises(BadTable) as caught:
            table.only([])
        self.assertEqual(caught.exception.name, "")


class SideBySideTest(unittest.TestCase):
    def test_states_and_pairs(self):
        a = Table({"flip": [(0, 1), (1, 0)]}, 1)
        b = Table({"turn": [(4, 2), (5, 0), (6, 1)], "ask": keep(3, 7)}, 2)
        both = a + b
        self.assertEqual((both.names(), both.size, both.first), (["flip", "turn", "ask"], 6, 5))
        for x in range(2):
            for y in range(3):
                answer, state = a("flip", x)
                self.assertEqual(both("flip", x * 3 + y), (answer, state * 3 + y))
                answer, state = b("turn", y)
                self.assertEqual(both("turn", x * 3 + y), (answer, x * 3 + state))
                self.assertEqual(both("ask", x * 3 + y), (7, x * 3 + y))
        other = b + a
        self.assertEqual((other.names(), other.size, other.first), (["turn", "ask", "flip"], 6, 5))
        self.assertEqual([other("flip", at) for at in range(6)], [(0, 1), (1, 0), (0, 3), (1, 2), (0, 5), (1, 4)])
        self.assertEqual((a.names(), b.names()), (["flip"], ["turn", "ask"]))

    def test_answers_side_by_side(self):
        source = random.Random(5)
        for _ in range(50):
            a, b = [random_table(source, "pq", 3), random_table(source, "rst", 4)]
            calls = [source.choice("pqrst") for _ in range(20)]
            answers = (a + b).answers(calls)
            for table, names in ((a, "pq"), (b, "rst")):
                own = [at for at, name in enumerate(calls) if name in names]
                self.assertEqual(table.answers([calls[at] for at in own]), [answers[at] for at in own])

    def test_errors_in_their_order(self):
        big = Table({name: keep(11) for name in "abcd"})
        with self.assertRaises(SameName) as caught:
            big + Table({name: keep(10) for name in "xdcb"})
        self.assertEqual(caught.exception.name, "b")
        with self.assertRaises(TooLarge) as caught:
            big + Table({name: keep(10) for name in "xyz"})
        self.assertEqual(caught.exception.bound, 6)
        with self.assertRaises(TooLarge) as caught:
            big + Table({name: keep(10) for name in "xy"})
        self.assertEqual(caught.exception.bound, 100)
        both = Table({name: keep(10) for name in "abcd"}) + Table({name: keep(10) for name in "xy"})
        self.assertEqual((both.size, len(both.names())), (100, 6))


if __name__ == "__main__":
    unittest.main()
