import random
import unittest

from coretower.builds import Build, Operation
from coretower.clients import once
from coretower.errors import BadName, NoCell, TooLarge
from coretower.games import Game
from coretower.plans import Plan
from coretower.spaces import Space
from tests.made import random_book, random_client, random_guard, random_recipe, random_worth

M, K = ("lock", "m"), ("lock", "k")
FREE_M, FREE_K = ("free", "m"), ("free", "k")
X, Y = ("write", "x", (1,), None), ("read", "a", "y", ("a", "=", (1,)))
VAL, TOP = ("write", ("val", "p"), (1,), None), ("read", "p", "top", None)
TAKE, DROP = ("take", "p", ("a", "=", (1,))), ("drop", "p", None)
PLAN = Plan({"x": "m", "y": "k", "val": "m", "top": "m"})


def build_of(*programs):
    operations = [Operation(name, list(steps)) for name, steps in zip(("f", "g", "h"), programs)]
    return Build(3, {"x": 0, "y": 0, "top": 0}, operations, fields=("val", "next"), links=("top", "p"), limit=1)


def guarded_build(seed):
    """A build that follows the plan in which x and val go by m and the others by k."""
    source = random.Random(seed)
    linked = source.random() < 0.5
    operations = []
    for name in ("f", "g"):
        steps = []
        for _ in range(source.choice([1, 1, 2])):
            if linked and source.random() < 0.5:
                steps.append((source.choice(["take", "take", "drop"]), "p", random_guard(source, False)))
            steps += guarded_section(source, linked)
        operations.append(Operation(name, steps + [("give", ("a",), None)] * source.choice([0, 1, 1]),
                                    turns=source.choice([1, 1, 2])))
    cells = {"x": 0, "y": 1}
    if not linked:
        return Build(2, cells, operations)
    return Build(2, {**cells, "top": 0}, operations, fields=("val",), links=("top", "p", "q"), limit=source.choice([1, 2]))


def guarded_section(source, linked):
    locks = source.choice([["m"], ["k"], ["m", "k"], ["k", "m"]])
    places = []
    for lock in locks:
        places += {"m": ["x"] + [("val", "p")] * linked, "k": ["y"] + ["top"] * linked}[lock]
    steps = [("lock", lock) for lock in locks]
    for _ in range(source.randint(1, 2)):
        place = source.choice(places)
        is_link = place == "top"
        worth, guard = random_worth(source, is_link), random_guard(source, False)
        local = source.choice("pq") if is_link else source.choice("ab")
        steps.append(source.choice([("read", local, place, guard), ("write", place, worth, guard),
                                    ("swap", local, place, worth, guard)]))
        if source.random() < 0.15:
            steps.append(("give", ("a",), ("b", "=", (0,))))
    return steps + [("free", lock) for lock in source.sample(locks, len(locks))]


class PlanTest(unittest.TestCase):
    def test_what_it_tells(self):
        given = {"y": "k", "val": "m", "x": "m"}
        plan = Plan(given)
        given["z"] = "m"
        self.assertEqual(list(plan), ["val", "x", "y"])
        self.assertEqual([plan[name] for name in plan], ["m", "m", "k"])
        for name in ("z", "m", "", None, ["x"], 3):
            self.assertNotIn(name, plan)
            with self.assertRaises(NoCell) as caught:
                plan[name]
            self.assertIs(caught.exception.name, name)
        self.assertIn("x", plan)
        self.assertEqual(list(Plan({})), [])

    def test_what_is_refused(self):
        for guards, name in [({"a": "m", "B": "m", "c": "M"}, "B"), ({"a": "m", "b": "M", "C": "m"}, "M"), ({"": ""}, ""),
                             ({"a": None}, None), ({3: "m"}, 3), ({"a": "abcdefghi"}, "abcdefghi"), ({("a",): "m"}, ("a",)),
                             ({"a": True, "B": "m"}, True), ({"a": ["m"]}, ["m"])]:
            with self.assertRaises(BadName) as caught:
                Plan(guards)
            self.assertEqual(caught.exception.name, name)


class FaultTest(unittest.TestCase):
    def test_builds_that_follow(self):
        for steps in [[M, X, VAL, TOP, FREE_M], [K, Y, M, X, FREE_K, VAL, FREE_M, M, X, FREE_M], [TAKE, DROP, M, X, FREE_M, DROP],
                      [M, K, Y, X, FREE_K, X, FREE_M, TAKE, K, FREE_K], [("give", (0,), None), ("fence", "full", None)],
                      [M, ("fence", "full", None), ("give", ("a",), None), X, FREE_M]]:
            self.assertIsNone(PLAN.fault(build_of(steps)))
            self.assertIsNone(PLAN.fault(build_of(steps, steps)))

    def test_the_first_wrong_step(self):
        for steps, at in [([X], 0), ([M, Y, FREE_M], 1), ([K, Y, X, FREE_K], 2), ([M, X, FREE_M, X], 3),
                          ([K, M, X, FREE_M, X, FREE_K], 4), ([M, K, FREE_M, VAL, FREE_K], 3), ([M, TAKE, FREE_M], 1),
                          ([TAKE, M, X, DROP, FREE_M], 3), ([M, K, FREE_K, K, FREE_K, FREE_M], 3),
                          ([M, K, FREE_M, M, FREE_M, FREE_K], 3), ([M, K, FREE_M, ("lock", "n"), FREE_K, ("free", "n"), X], 3),
                          ([K, M, FREE_M, TAKE, FREE_K], 3), ([M, ("cas", "a", ("next", "p"), (0,), (0,), None), FREE_M], 1),
                          ([M, ("swap", "a", "y", (0,), None), FREE_M], 1), ([("acquire", "a", "x", None)], 0),
                          ([("release", "x", (0,), None)], 0), ([M, FREE_M, ("drop", "p", None), Y], 3)]:
            good = [M, X, FREE_M]
            with self.subTest(steps=steps):
                plan = Plan({**{name: PLAN[name] for name in PLAN}})
                self.assertEqual(plan.fault(build_of(steps, [X])), ("f", at))
                self.assertEqual(plan.fault(build_of(good, steps, [X])), ("g", at))

    def test_cells_that_it_does_not_tell(self):
        steps = [M, ("read", "a", "x", None), ("read", "p", "top", None), FREE_M]
        self.assertEqual(Plan({}).fault(build_of(steps)), ("f", 1))
        self.assertEqual(Plan({"x": "m"}).fault(build_of(steps)), ("f", 2))
        self.assertIsNone(Plan({"x": "m", "top": "m", "other": "z"}).fault(build_of(steps)))
        self.assertIsNone(Plan({}).fault(build_of([M, FREE_M, ("give", (0,), None)])))

    def test_builds_that_follow_answer_at_once_as_joined_and_in_order(self):
        plan = Plan({"x": "m", "val": "m", "y": "k", "top": "k"})
        told = 0
        for seed in range(45):
            source = random.Random(seed)
            build = guarded_build(seed)
            self.assertIsNone(plan.fault(build))
            client = random_client(source, build.names())
            book = random_book(source)
            try:
                ordered = Space(build, client)
                if len(ordered.web) > 1200:
                    continue
                joined = Space(build, client, joined=True)
                weak = Space(build, client, book=book, window=source.choice([2, 3]))
                cooked = Space(build, client, recipe=random_recipe(source, book), window=source.choice([2, 3]))
                self.assertEqual(Game(ordered.web, joined.web).word(), "at once")
                for space in (weak, cooked):
                    self.assertEqual(Game(space.web, ordered.web).word(), "at once")
            except TooLarge:
                continue
            told += 1
        self.assertGreater(told, 25)

    def test_a_build_that_does_not_follow_may_answer_otherwise(self):
        twice = [M, ("read", "a", "x", None), ("read", "b", "x", None), FREE_M, ("give", ("a", "b"), None)]
        put = ("write", "x", (1,), None)
        words = []
        for steps in ([put], [M, put, FREE_M]):
            build = build_of(twice, steps)
            client = [once("f"), once("g")]
            fault = Plan({"x": "m"}).fault(build)
            words.append((fault, Game(Space(build, client).web, Space(build, client, joined=True).web).word()))
        self.assertEqual(words, [(("g", 0), "never"), (None, "at once")])


if __name__ == "__main__":
    unittest.main()
