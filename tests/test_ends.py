import unittest

from coretower.books import Book
from coretower.builds import Build, Operation
from coretower.choosers import Chooser
from coretower.clients import always, once
from coretower.ends import Ends
from coretower.errors import BadSetting, NotRegular, TooLarge
from coretower.plain import plain_web
from coretower.shapes import Ticket, table_of
from coretower.spaces import Space
from coretower.webs import Web
from tests.ending import excluded, plain_ends, plain_regular, regular_rows
from tests.made import random_build, random_settings
from tests.samples import back, call, moves_of, random_rows, step

WORDS = ("some", "each", "fair")
GIVE = ("give", (0,), None)


def told(ends):
    return {"stuck": ends.stuck(), "some": ends.some(), "each": ends.each(), "fair": ends.fair(), "singly": ends.singly()}


def space_of(*operations, callers=2, client=None, **more):
    build = Build(2, {"x": 0, "y": 0}, list(operations))
    client = client or [once(*build.names())] * callers
    return Space(build, client, **more)


class RegularTest(unittest.TestCase):
    def refused(self, rows):
        with self.assertRaises(NotRegular):
            Ends(Web(rows))

    def test_calls_and_returns_by_turns(self):
        self.refused([[(back(0), 0)]])
        self.refused([[(call("a"), 1)], [(call("a"), 0)]])
        self.refused([[(call("a"), 1)], [(back(0), 2)], [(back(0), 2)]])
        self.refused([[(call("a"), 1)], [(back(0, 1), 0)]])
        Ends(Web([[(call("a"), 1)], [(back(0), 0), (back(1), 0)]]))

    def test_runs_that_lead_to_the_same_standing(self):
        self.refused([[(call("a"), 1), (step(), 1)], []])
        self.refused([[(call("a"), 1), (call("a", 1), 1)], []])
        self.refused([[(call("a"), 0)]])
        Ends(Web([[(call("a"), 1), (call("b"), 1)], []]))
        Ends(Web([[(step(), 0)]]))

    def test_standings_that_no_run_leads_to_do_not_count(self):
        ends = Ends(Web([[], [(back(0), 0)], [(call("a"), 2)], [(step(), 3)]]))
        self.assertEqual(told(ends), {"stuck": False, "some": True, "each": True, "fair": True, "singly": True})
        self.assertEqual(len(ends.falls()), 4)

    def test_all_sorts_of_webs(self):
        count = 0
        for seed in range(400):
            rows = random_rows(seed, most=4, deeds=(call("a"), back(0), step(), call("a", 1), back(0, 1)), chance=0.3)
            if plain_regular(rows):
                count += 1
                Ends(Web(rows))
            else:
                self.refused(rows)
        self.assertGreater(count, 40)


class AgainstTheDocumentTest(unittest.TestCase):
    def look(self, web):
        rows = moves_of(web)
        ends = Ends(web)
        plain = plain_ends(rows)
        self.assertEqual(told(ends), plain)
        self.assertTrue(all(isinstance(worth, bool) for worth in told(ends).values()))
        for word in WORDS:
            found = ends.lasso(word)
            self.assertEqual(found is None, plain[word])
            if found is not None:
                self.assertTrue(excluded(rows, word, *found), (word, found))
        self.look_at_falls(rows, ends.falls(), plain["some"])
        self.look_at_stuck_run(web, ends.stuck_run(), plain["stuck"])
        return plain

    def look_at_falls(self, rows, falls, some):
        self.assertEqual(falls is not None, some)
        if falls is None:
            return
        self.assertEqual((len(falls), {isinstance(height, int) for height in falls}), (len(rows), {True}))
        reached = {0}
        for _ in rows:
            reached |= {goal for at in reached for _, goal in rows[at]}
        for at in reached:
            for deed, goal in rows[at]:
                self.assertTrue(deed[1] == "return" or falls[goal] < falls[at])

    def look_at_stuck_run(self, web, run, stuck):
        self.assertEqual(run is not None, stuck)
        if run is None:
            return
        self.assertEqual(web.moves(web.go(run)), [])
        level, length = {(0, frozenset())}, 0
        while not any(callers and not web.moves(at) for at, callers in level):
            length += 1
            level = {(goal, callers | {deed[0]} if deed[1] == "call" else callers - {deed[0]} if deed[1] == "return"
                      else callers) for at, callers in level for deed, goal in web.moves(at)}
        self.assertEqual(len(run), length)

    def test_free_webs(self):
        seen = {}
        for seed in range(500):
            rows = regular_rows(seed, callers=1 + seed % 3, chance=0.25 + seed % 4 * 0.15)
            for word, worth in self.look(Web(rows)).items():
                seen[word, worth] = seen.get((word, worth), 0) + 1
        self.assertEqual(len(seen), 10)
        self.assertGreater(min(seen.values()), 20)

    def test_webs_of_machines(self):
        seen = {}
        for seed in range(700, 760):
            build = random_build(seed, locks=0.6)
            client, settings = random_settings(seed, build)
            try:
                web = Space(build, client, **settings).web
            except TooLarge:
                continue
            if len(web) <= 60:
                for word, worth in self.look(web).items():
                    seen[word, worth] = True
        self.assertGreater(len(seen), 6)

    def test_plain_webs(self):
        for client in ([always("up", "look")], [once("up", "look"), once("up")], [always("up"), always("up")]):
            plain = self.look(plain_web(table_of(Ticket(2)), client))
            self.assertEqual(plain, {"stuck": False, "some": True, "each": True, "fair": True, "singly": True})


class MachinesTest(unittest.TestCase):
    def test_a_lock_can_be_waited_for_for_ever(self):
        hold = Operation("hold", [("lock", "m"), ("write", "x", (1,), None), ("free", "m"), GIVE])
        ends = Ends(space_of(hold, client=[always("hold")] * 2).web)
        self.assertEqual(told(ends), {"stuck": False, "some": True, "each": False, "fair": False, "singly": False})

    def test_waiting_for_another_one(self):
        wait = Operation("wait", [("read", "a", "x", None), ("give", (1,), ("a", "=", (1,)))], turns=0)
        wake = Operation("wake", [("write", "x", (1,), None), GIVE])
        ends = Ends(space_of(wait, wake, client=[once("wait"), once("wake")]).web)
        self.assertEqual(told(ends), {"stuck": False, "some": False, "each": False, "fair": True, "singly": False})
        _, deeds = ends.lasso("some")
        self.assertEqual({deed[0] for deed in deeds}, {0})

    def test_a_cas_in_turns(self):
        steps = [("read", "a", "x", None), ("cas", "b", "x", ("a",), ("a", 1), None),
                 ("give", ("a",), ("b", "=", (1,)))]
        again = Operation("up", steps, turns=0)
        ends = Ends(space_of(again, client=[always("up")] * 2).web)
        self.assertEqual(told(ends), {"stuck": False, "some": True, "each": False, "fair": False, "singly": True})
        _, deeds = ends.lasso("each")
        self.assertIn("return", [deed[1] for deed in deeds])

    def test_two_locks_in_both_orders(self):
        one = Operation("one", [("lock", "a"), ("lock", "b"), ("free", "b"), ("free", "a"), GIVE])
        other = Operation("other", [("lock", "b"), ("lock", "a"), ("free", "a"), ("free", "b"), GIVE])
        space = space_of(one, other, client=[once("one"), once("other")])
        ends = Ends(space.web)
        self.assertIs(ends.stuck(), True)
        self.assertEqual(len(ends.stuck_run()), 4)
        self.assertEqual(space.holders(space.web.go(ends.stuck_run())), {"a": 0, "b": 1})
        self.assertIsNone(Ends(space_of(one, client=[once("one")] * 2).web).stuck_run())

    def test_a_caller_without_a_call_is_not_stuck(self):
        ends = Ends(space_of(Operation("f", [GIVE]), client=[once("f")]).web)
        self.assertEqual(told(ends), {"stuck": False, "some": True, "each": True, "fair": True, "singly": True})

    def test_writes_behind_the_return_are_no_round(self):
        put = Operation("put", [("write", "x", (1,), None), GIVE])
        space = space_of(put, client=[always("put")] * 2, book=Book.buffered(), window=3)
        self.assertIs(Ends(space.web).some(), True)

    def test_other_words(self):
        ends = Ends(space_of(Operation("f", [GIVE])).web)
        for word in ("", "stuck", "singly", "Some", None, 1, ["some"]):
            with self.assertRaises(BadSetting) as caught:
                ends.lasso(word)
            self.assertIs(caught.exception.setting, word)

    def test_new_lists_each_time(self):
        wait = Operation("wait", [("read", "a", "x", None), ("give", (1,), ("a", "=", (1,)))], turns=0)
        ends = Ends(space_of(wait, client=[once("wait")]).web)
        for word in WORDS:
            first = ends.lasso(word)
            first[0].append(None)
            first[1].clear()
            self.assertNotIn(None, ends.lasso(word)[0])
            self.assertNotEqual(ends.lasso(word)[1], [])
        ends = Ends(space_of(Operation("f", [GIVE])).web)
        ends.falls().clear()
        self.assertEqual(len(ends.falls()), len(space_of(Operation("f", [GIVE])).web))


class FactsTest(unittest.TestCase):
    """The facts of point 40 that tell of machines."""

    def test_facts(self):
        seen = set()
        for seed in range(800, 900):
            build = random_build(seed, locks=0.6)
            client, settings = random_settings(seed, build)
            settings.pop("chooser", None)
            try:
                ends = Ends(Space(build, client, **settings).web)
                self.look(build, client, settings, ends, seen)
            except TooLarge:
                continue
        self.assertEqual(seen, {"alive", "some", "fair", "singly"})

    def look(self, build, client, settings, ends, seen):
        many = len(client)
        self.assertTrue(ends.fair() or not ends.each())
        self.assertTrue(ends.some() or not ends.each())
        for chooser in (Chooser.free(many), Chooser.ranked(many), Chooser.rotating(many)):
            under = Ends(Space(build, client, chooser=chooser, **settings).web)
            self.assertTrue(ends.stuck() or not under.stuck())
            self.assertTrue(under.some() or not ends.some())
        if not ends.stuck():
            seen.add("alive")
        if ends.some():
            seen.add("some")
        if ends.fair():
            seen.add("fair")
            self.assertTrue(Ends(Space(build, client, chooser=Chooser.rotating(many), **settings).web).each())
        if ends.singly():
            seen.add("singly")
            self.assertTrue(Ends(Space(build, client, chooser=Chooser.ranked(many), **settings).web).some())


class SizeTest(unittest.TestCase):
    def test_long_rows_and_rings(self):
        many = 4000
        ring = [[(call("a"), 1)]] + [[(step(), at + 1)] for at in range(1, many - 1)] + [[(step(), 1)]]
        ends = Ends(Web(ring))
        self.assertEqual(told(ends), {"stuck": False, "some": False, "each": False, "fair": False, "singly": False})
        self.assertEqual(len(ends.lasso("each")[1]), many - 1)
        row = [[(call("a"), 1)]] + [[(step(), at + 1)] for at in range(1, many - 1)] + [[]]
        ends = Ends(Web(row))
        self.assertEqual(told(ends), {"stuck": True, "some": True, "each": True, "fair": True, "singly": False})
        self.assertEqual(len(ends.stuck_run()), many - 1)
        self.assertEqual(sorted(ends.falls(), reverse=True), ends.falls())


if __name__ == "__main__":
    unittest.main()
