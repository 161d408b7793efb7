import unittest

from coretower.builds import Build, Operation
from coretower.clients import always, once
from coretower.errors import BadName, BadPool
from coretower.papers import lockstep
from coretower.pools import RULES, Pool
from coretower.spaces import Space, dirty_run
from tests.samples import back, call, step

NOTHING = ("give", (0,), None)


def linked_build(*operations, limit=1):
    return Build(3, {"x": 0, "top": 0}, list(operations), fields=("val", "next"), links=("top", "next", "p", "q"),
                 limit=limit)


def op(name, *steps):
    return Operation(name, list(steps))


class PoolTest(unittest.TestCase):
    def test_rules(self):
        self.assertEqual(RULES, ("last", "first", "quiet", "unheld"))

    def test_fields(self):
        for rule in RULES:
            for size in (1, 2, 3, 4):
                pool = Pool(rule, size)
                self.assertEqual((pool.rule, pool.size), (rule, size))

    def test_wrong_rules(self):
        for rule in ("", "Last", "lasts", "unhel", None, 0, True, ("last",), ["last"], {"last": 1}, b"last"):
            with self.assertRaises(BadName) as caught:
                Pool(rule, 9)
            self.assertIs(caught.exception.name, rule)

    def test_wrong_sizes(self):
        for size in (0, 5, -1, 10, True, False, None, "2", 2.0, (2,), [2]):
            with self.assertRaises(BadPool) as caught:
                Pool("quiet", size)
            self.assertIs(caught.exception.size, size)


class TakesTest(unittest.TestCase):
    """Nodes are dropped in the order 2, 1 into a row that begins with 3; each rule takes another one then."""

    def setUp(self):
        steps = [("take", "p", None), ("take", "q", None), ("write", ("val", "p"), (1,), None),
                 ("write", ("val", "q"), (2,), None), ("drop", "q", None), ("drop", "p", None),
                 ("write", "top", ("q",), None)]
        look = [("take", "p", None), ("read", "q", "top", None), ("write", "x", (1,), ("p", "=", ("q",))),
                ("read", "a", ("val", "q"), None), ("give", ("a",), None)]
        self.build = linked_build(op("leave", *steps), op("look", *look), limit=2)
        self.run_to_look = [call("leave")] + [step()] * 7 + [back(0), call("look")]

    def space(self, rule, size):
        return Space(self.build, [once("leave", "look")], pool=Pool(rule, size))

    def answer(self, rule, size):
        space = self.space(rule, size)
        return list(space.web.histories(6))[-1][-1]

    def test_first_takes_the_node_that_waits_longest(self):
        # Of two nodes the one dropped first was q, which top holds: it comes back with 0 in its fields.
        self.assertEqual(self.answer("first", 2), back(0))
        self.assertEqual(self.answer("first", 3), back(2))

    def test_last_takes_the_node_dropped_last(self):
        self.assertEqual(self.answer("last", 2), back(2))
        # At first the last node of the row is 4, then 3: p is 4 and q is 3, and 4 is the last one again.
        self.assertEqual(self.answer("last", 4), back(2))

    def test_quiet_takes_the_first_one_whose_callers_have_returned(self):
        self.assertEqual(self.answer("quiet", 2), back(0))
        self.assertEqual(self.answer("quiet", 3), back(2))

    def test_unheld_takes_the_first_one_that_is_not_found(self):
        self.assertEqual([self.answer("unheld", size) for size in (2, 3, 4)], [back(2)] * 3)

    def test_dirty_standings(self):
        for rule, size, dirty in [("first", 2, True), ("first", 3, False), ("last", 2, False), ("quiet", 3, True),
                                  ("unheld", 2, False)]:
            space = self.space(rule, size)
            self.assertIs(space.dirty(space.web.go(self.run_to_look)), dirty, (rule, size))
        self.assertIsNone(dirty_run(self.space("unheld", 2)))

    def test_a_dirty_run_is_as_short_as_can_be(self):
        for rule in RULES:
            for size in (2, 3, 4):
                space = self.space(rule, size)
                found = dirty_run(space)
                shortest = min((len(run) for run in self.runs(space) if space.dirty(space.web.go(run))), default=None)
                self.assertEqual(None if found is None else len(found), shortest)
                if found is not None:
                    self.assertTrue(space.dirty(space.web.go(found)))

    def runs(self, space):
        run, runs = [], [[]]
        while space.web.moves(space.web.go(run)):
            self.assertEqual(len(space.web.moves(space.web.go(run))), 1)
            run = run + [space.web.moves(space.web.go(run))[0][0]]
            runs.append(run)
        return runs


class HeldBackTest(unittest.TestCase):
    def test_two_callers_wait_for_each_other_by_the_rule_quiet(self):
        build = linked_build(op("f", ("take", "p", None), ("drop", "p", None), ("take", "q", None), ("drop", "q", None)))
        space = Space(build, [once("f"), once("f")], pool=Pool("quiet", 1))
        run = [call("f"), call("f", 1), step(), step()]
        self.assertEqual(space.web.moves(space.web.go(run)), [])
        self.assertEqual([space.called(space.web.go(run), caller) for caller in (0, 1)], ["f", "f"])
        self.assertEqual(len(Space(build, [once("f"), once("f")], pool=Pool("last", 1)).web.moves(space.web.go(run))), 2)

    def test_a_take_goes_on_when_somebody_lets_the_node_go(self):
        hold = op("hold", ("take", "p", None), ("write", "top", ("p",), None), ("drop", "p", None))
        build = linked_build(hold, op("clear", ("write", "top", (0,), None)))
        space = Space(build, [once("hold", "hold"), once("clear")], pool=Pool("unheld", 1))
        run = [call("hold"), step(), step(), step(), back(0), call("hold")]
        self.assertEqual([deed for deed, _ in space.web.moves(space.web.go(run))], [call("clear", 1)])
        run += [call("clear", 1), step(0, 1)]
        self.assertIn(step(), [deed for deed, _ in space.web.moves(space.web.go(run))])

    def test_the_row_is_a_part_of_a_standing(self):
        """The nodes wait in one order or the other; nothing else differs."""
        build = linked_build(op("f", ("take", "p", None), ("drop", "p", None)), limit=2)
        runs = [[call("f"), call("f", 1), step(), step(0, 1), step(), step(0, 1), back(0), back(0, 1)],
                [call("f"), call("f", 1), step(), step(0, 1), step(0, 1), step(), back(0), back(0, 1)]]
        for rule in RULES:
            space = Space(build, [once("f"), once("f")], pool=Pool(rule, 2))
            self.assertNotEqual(space.web.go(runs[0]), space.web.go(runs[1]))
        fresh = Space(build, [once("f"), once("f")])
        self.assertEqual(fresh.web.go(runs[0]), fresh.web.go(runs[1]))

    def test_the_fields_of_nodes_that_nobody_holds_are_a_part_of_a_standing(self):
        build = linked_build(op("f", ("take", "p", None), ("write", ("val", "p"), (1,), None), ("drop", "p", None)),
                             op("g", ("take", "p", None), ("write", ("val", "p"), (2,), None), ("drop", "p", None)))
        runs = [[call(name)] + [step()] * 3 + [back(0)] for name in ("f", "g")]
        space = Space(build, [always("f", "g")], pool=Pool("first", 1))
        self.assertNotEqual(space.web.go(runs[0]), space.web.go(runs[1]))
        fresh = Space(build, [always("f", "g")])
        self.assertEqual(fresh.web.go(runs[0]), fresh.web.go(runs[1]))


class FactsTest(unittest.TestCase):
    def test_a_node_that_comes_back_while_it_is_held_is_seen(self):
        """Without dirty standings every run on the pool is one on fresh nodes; here some standing is dirty."""
        leave = op("leave", ("take", "p", None), ("write", "top", ("p",), None), ("drop", "p", None))
        look = op("look", ("take", "p", None), ("read", "q", "top", None), ("give", (1,), ("p", "=", ("q",))))
        build = linked_build(leave, look)
        fresh = Space(build, [once("leave", "look")])
        for rule, size, clean in [("last", 1, False), ("first", 1, False), ("quiet", 1, False), ("unheld", 2, True),
                                  ("unheld", 1, True)]:
            space = Space(build, [once("leave", "look")], pool=Pool(rule, size))
            self.assertIs(dirty_run(space) is None, clean, rule)
            self.assertIs(lockstep(space.web, fresh.web) is not None, clean, rule)


if __name__ == "__main__":
    unittest.main()
