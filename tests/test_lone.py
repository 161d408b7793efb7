import unittest

from coretower.builds import Build, Operation
from coretower.clients import always
from coretower.errors import NoEnd, NoOperation, TooLarge
from coretower.lone import lone_answers, lone_table
from tests.machines import PlainMachine
from tests.made import random_build

UP = Operation("up", [("read", "a", "x", None), ("write", "x", ("a", 1), None), ("give", ("a",), None)])
GET = Operation("get", [("lock", "m"), ("read", "a", "x", None), ("free", "m"), ("give", ("a", 1), None)])


def rows_of(table):
    return {name: [table(name, state) for state in range(table.size)] for name in table.names()}


def linked_build(*operations, limit=1):
    return Build(3, {"top": 0}, list(operations), fields=("val", "next"), links=("top", "next", "p", "q"), limit=limit)


def plain_call(machine, standing, name, most=4000):
    """The answer and the standing behind a call that runs alone; NoEnd or TooLarge as a string."""
    standing = machine.after(standing, (0, "call", name))
    seen = {machine.key(standing)}
    deeds = 0
    while True:
        deed, = machine.deeds(standing)
        standing = machine.after(standing, deed)
        machine.forget(standing)
        if deed[1] == "return":
            return deed[2], standing
        if machine.key(standing) in seen:
            return "NoEnd", None
        seen.add(machine.key(standing))
        deeds += 1
        if deeds == most:
            return "TooLarge", None


def plain_lone(build):
    """The rows of the lone table, in the plainest way; or an error as the tuple of its name and its field."""
    machine = PlainMachine(build, [always(*build.names())])
    found, keys = [machine.begin()], [machine.key(machine.begin())]
    rows = {name: [] for name in build.names()}
    for standing in found:
        for name in build.names():
            answer, goal = plain_call(machine, standing, name)
            if goal is None:
                return (answer, name if answer == "NoEnd" else 4000)
            if machine.key(goal) not in keys:
                if len(found) == 100:
                    return ("TooLarge", 100)
                found.append(goal)
                keys.append(machine.key(goal))
            rows[name].append((answer, keys.index(machine.key(goal))))
    return rows


def counter(first):
    """An operation that counts up to 100, on three cells with base 5."""
    steps = [("read", "d", "top", None), ("give", (0,), ("d", "=", (4,))), ("read", "a", "low", None),
             ("write", "low", ("a", 1), None), ("read", "b", "mid", ("a", "=", (4,))),
             ("write", "mid", ("b", 1), ("a", "=", (4,))), ("write", "top", ("d", 1), ("b", "=", (4,))), ("give", (1,), None)]
    return Build(5, {"low": first, "mid": 0, "top": 0}, [Operation("up", steps)])


class LoneTableTest(unittest.TestCase):
    def test_a_counter(self):
        self.assertEqual(rows_of(lone_table(Build(3, {"x": 1}, [GET, UP]))), {
            "get": [(2, 0), (0, 1), (1, 2)], "up": [(1, 1), (2, 2), (0, 0)]})

    def test_states_are_numbered_as_they_are_found(self):
        put = Operation("put", [("write", "y", (2,), None)], otherwise=9)
        table = lone_table(Build(3, {"x": 1, "y": 0}, [put, UP]))
        self.assertEqual(rows_of(table), {"put": [(9, 1), (9, 1), (9, 3), (9, 3), (9, 5), (9, 5)],
                                          "up": [(1, 2), (1, 3), (2, 4), (2, 5), (0, 0), (0, 1)]})
        self.assertEqual((table.names(), table.first), (["put", "up"], 0))

    def test_nodes_count_up_to_their_names(self):
        swap = Operation("swap", [("take", "p", None), ("write", "top", ("p",), None), ("drop", "p", None)])
        self.assertEqual(rows_of(lone_table(linked_build(swap))), {"swap": [(0, 1), (0, 1)]})
        lose = Operation("lose", [("take", "p", None), ("give", (1,), ("p", "=", (0,)))])
        self.assertEqual(rows_of(lone_table(linked_build(lose, limit=2))), {"lose": [(0, 1), (0, 2), (1, 2)]})

    def test_tables_are_those_of_the_document(self):
        told = []
        for seed in range(700, 790):
            build = random_build(seed, most=5, fences=("full", "odd"))
            with self.subTest(seed=seed):
                wanted = plain_lone(build)
                if isinstance(wanted, dict):
                    self.assertEqual(rows_of(lone_table(build)), wanted)
                else:
                    with self.assertRaises((NoEnd, TooLarge)) as caught:
                        lone_table(build)
                    error = caught.exception
                    self.assertEqual((type(error).__name__, *vars(error).values()), wanted)
                told.append(wanted if isinstance(wanted, tuple) else len(wanted))
        self.assertIn(("NoEnd", "f"), told)
        self.assertIn(("NoEnd", "g"), told)
        self.assertIn(2, told)

    def test_calls_that_never_end(self):
        spin = Operation("spin", [("read", "a", "x", None), ("give", (0,), ("a", "=", (1,)))], turns=0)
        with self.assertRaises(NoEnd) as caught:
            lone_table(Build(3, {"x": 1}, [GET, spin, UP]))
        self.assertEqual(caught.exception.name, "spin")
        self.assertEqual(lone_answers(Build(3, {"x": 1}, [GET, spin, UP]), ["spin", "get", "spin"]), [0, 2, 0])
        still = Operation("still", [("write", "x", (1,), ("a", "=", (1,)))], turns=0)
        with self.assertRaises(NoEnd) as caught:
            lone_table(Build(3, {"x": 1}, [still]))

    def test_a_call_that_comes_back_only_to_a_standing_before_it_ends(self):
        flip = Operation("flip", [("cas", "a", "x", (0,), (1,), None), ("cas", "b", "x", (1,), (0,), ("a", "=", (0,)))])
        self.assertEqual(rows_of(lone_table(Build(2, {"x": 0}, [flip]))), {"flip": [(0, 1), (0, 0)]})

    def test_the_bound_of_states(self):
        self.assertEqual(lone_table(counter(1)).size, 100)
        with self.assertRaises(TooLarge) as caught:
            lone_table(counter(0))
        self.assertEqual(caught.exception.bound, 100)

    def test_the_first_wrong_call_is_told(self):
        grow = Operation("grow", [("take", "p", None), ("read", "q", "top", None), ("write", ("next", "p"), ("q",), None),
                                  ("write", "top", ("p",), None), ("drop", "p", None)])
        spin = Operation("spin", [("read", "q", "top", None), ("read", "q", ("next", "q"), None),
                                  ("give", (0,), ("q", "=", (0,)))], turns=0)
        with self.assertRaises(NoEnd):
            lone_table(linked_build(grow, spin))
        with self.assertRaises(TooLarge) as caught:
            lone_table(linked_build(grow))
        self.assertEqual(caught.exception.bound, 100)

    def test_the_bound_of_deeds(self):
        """A call that counts for a while and then makes so many accesses: with the return, 4000 deeds are the most."""
        def build_of(more, *ends):
            steps = [("read", "a", "one", None), ("write", "one", ("a", 1), None)]
            carry = ("a", "=", (4,))
            steps += [("read", "e", "zero", None), ("read", "e", "zero", carry)]
            steps += [("read", "b", "two", carry), ("write", "two", ("b", 1), carry), ("cas", "a", "two", (0,), (0,), carry)]
            carry = ("b", "=", (4,))
            steps += [("read", "c", "three", carry), ("write", "three", ("c", 1), carry)]
            carry = ("c", "=", (4,))
            steps += [("read", "d", "four", carry), ("write", "four", ("d", 1), carry)]
            # What was carried is forgotten; only d stays.
            steps += [("read", local, "zero", None) for local in ("a", "b", "c")]
            last = ("d", "=", (4,))
            steps += [("write", "zero", (0,), last)] * more
            steps += [("give", (3,), last)]
            cells = {"one": 0, "two": 0, "three": 0, "four": 1, "zero": 0}
            return Build(5, cells, [Operation("long", [*ends[:1], *steps, *ends[1:]], turns=0)])
        machine = PlainMachine(build_of(0), [always("long")])
        deeds = self.deeds_of(machine)
        self.assertLess(deeds, 4000)
        self.assertLess(4000 - deeds, 60)
        more = 3999 - deeds
        self.assertEqual(lone_answers(build_of(more), ["long"]), [3])
        self.assertEqual(self.deeds_of(PlainMachine(build_of(more), [always("long")])), 3999)
        for run in (lone_table, lambda build: lone_answers(build, ["long"])):
            with self.assertRaises(TooLarge) as caught:
                run(build_of(more + 1))
            self.assertEqual(caught.exception.bound, 4000)
            # Locks are taken and freed by deeds, too.
            with self.assertRaises(TooLarge):
                run(build_of(0, ("lock", "m"), ("free", "m")))

    def deeds_of(self, machine):
        """How many steps a call makes before its return."""
        standing = machine.after(machine.begin(), (0, "call", "long"))
        deeds = 0
        while machine.deeds(standing)[0][1] == "step":
            standing = machine.after(standing, machine.deeds(standing)[0])
            deeds += 1
        return deeds


class LoneAnswersTest(unittest.TestCase):
    def test_answers(self):
        build = Build(3, {"x": 1}, [GET, UP])
        self.assertEqual(lone_answers(build, []), [])
        self.assertEqual(lone_answers(build, ["get", "up", "get", "up", "up", "get"]), [2, 1, 0, 2, 0, 2])
        self.assertEqual(lone_answers(build, ["up"] * 1000), ([1, 2, 0] * 334)[:1000])

    def test_answers_are_those_of_the_table(self):
        for seed in range(700, 730):
            build = random_build(seed, most=5)
            try:
                table = lone_table(build)
            except (NoEnd, TooLarge):
                continue
            calls = (build.names() * 4 + build.names()[::-1] * 3)[:9]
            self.assertEqual(lone_answers(build, calls), table.answers(calls))

    def test_refusals(self):
        spin = Operation("spin", [("read", "a", "x", None)], turns=0)
        build = Build(3, {"x": 1}, [spin, UP])
        with self.assertRaises(NoOperation) as caught:
            lone_answers(build, ["spin", "up", "x", "y"])
        self.assertEqual(caught.exception.name, "x")
        with self.assertRaises(NoEnd) as caught:
            lone_answers(build, ["up", "spin"])
        self.assertEqual(caught.exception.name, "spin")
        self.assertEqual(lone_answers(build, ["up", "up"]), [1, 2])


if __name__ == "__main__":
    unittest.main()
