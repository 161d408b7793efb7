import random
import unittest

from coretower.books import Book
from coretower.builds import Build, Operation
from coretower.choosers import Chooser
from coretower.clients import always, once
from coretower.ends import Ends
from coretower.errors import (
    BadClient, BadNumber, BadPool, BadRun, BadSetting, NoFence, NoOperation, NoRung, NotAtOnce, TooLarge)
from coretower.games import Game
from coretower.locking import Rule
from coretower.lone import lone_table
from coretower.papers import lockstep
from coretower.plain import plain_web
from coretower.pools import Pool
from coretower.recipes import Recipe, lost
from coretower.rings import ring_of
from coretower.shapes import Ticket, table_of
from coretower.spaces import Space
from coretower.tables import Table
from coretower.towers import Tower, by_rule
from coretower.webs import shown
from tests.made import (
    random_book, random_build, random_client, random_object, random_recipe, random_settings)
from tests.samples import back, call, is_paper, moves_of, step

ORDER = ("at once", "afterwards", "never")
GET = Operation("look", [("read", "a", "x", None), ("give", ("a",), None)])
COUNT = Operation("up", [("read", "a", "x", None), ("write", "x", ("a", 1), None), ("give", ("a",), None)])
SAFE = Operation("up", [("lock", "m"), ("read", "a", "x", None), ("write", "x", ("a", 1), None), ("free", "m"),
                        ("give", ("a",), None)])
TAKE = Operation("up", [("take", "p", None), ("write", ("val", "p"), (1,), None), ("drop", "p", None),
                        ("give", (0,), None)])


def build_of(*operations):
    return Build(3, {"x": 0}, list(operations))


def node_build(*operations, limit=1):
    return Build(3, {"x": 0, "top": 0}, list(operations), fields=("val",), links=("top", "p", "q"), limit=limit)


def parts_for(build, callers=2):
    recipe = Recipe(Book.buffered(), Book.loose())
    return {"pool": Pool("first", 2), "book": Book.buffered(), "recipe": recipe, "chooser": Chooser.rotating(callers)}


def drawn_towers(seeds, **more):
    """Towers at random of lone tables, whose webs are small."""
    for seed in seeds:
        build = random_build(seed, **more) if more or seed % 3 == 0 else random_object(seed)
        client, settings = random_settings(seed, build)
        settings.pop("joined", None)
        try:
            table = lone_table(build)
            tower = Tower(table, build, client, **settings)
        except ValueError:
            continue
        if max(len(tower[name]) for name in tower) <= 150:
            yield seed, table, build, client, settings, tower


class RungsTest(unittest.TestCase):
    def rungs(self, build, client, *names, **more):
        every = parts_for(build, len(client))
        settings = {name: every[name] for name in names}
        tower = Tower(table_of(Ticket(3)), build, client, **settings, **more)
        self.assertEqual(list(tower), tower.rungs())
        return tower.rungs()

    def test_rungs_for_each_set_of_parts(self):
        plain, locked = build_of(COUNT, GET), build_of(SAFE, GET)
        client = [once("up"), once("look")]
        base = ["table", "joined"]
        self.assertEqual(self.rungs(plain, client), base)
        self.assertEqual(self.rungs(locked, client), base + ["opened"])
        self.assertEqual(self.rungs(plain, client, "pool"), base + ["pool"])
        self.assertEqual(self.rungs(locked, client, "pool"), base + ["opened", "pool"])
        self.assertEqual(self.rungs(plain, client, "book"), base + ["book"])
        self.assertEqual(self.rungs(plain, client, "recipe"), base + ["book", "recipe"])
        self.assertEqual(self.rungs(plain, client, "chooser"), base + ["chooser"])
        self.assertEqual(self.rungs(locked, client, "pool", "recipe", "chooser"),
                         base + ["opened", "pool", "book", "recipe", "chooser"])
        self.assertEqual(self.rungs(locked, client, "pool", "book", "chooser", window=3),
                         base + ["opened", "pool", "book", "chooser"])

    def test_rungs_are_new_each_time(self):
        tower = Tower(table_of(Ticket(3)), build_of(COUNT), [once("up")])
        tower.rungs().append("x")
        self.assertEqual(tower.rungs(), ["table", "joined"])

    def test_webs_and_spaces(self):
        """Each rung is the machine that point 44 tells."""
        build = node_build(Operation("up", [("lock", "m"), ("read", "a", "x", None), ("free", "m"), ("take", "p", None),
                                            ("write", "x", ("a", 1), None), ("write", "top", ("p",), None),
                                            ("drop", "p", None), ("give", ("a",), None)]), GET)
        client = [once("up", "up"), once("look")]
        table = table_of(Ticket(3))
        every = parts_for(build)
        pool, recipe, chooser = every["pool"], every["recipe"], every["chooser"]
        recipe["write"] = (("full",), "release", ())
        for window in (2, 3):
            wanted = {
                "joined": {"joined": True}, "opened": {}, "pool": {"pool": pool},
                "book": {"pool": pool, "book": recipe.source, "window": window},
                "recipe": {"pool": pool, "recipe": recipe, "window": window},
                "chooser": {"pool": pool, "recipe": recipe, "window": window, "chooser": chooser}}
            tower = Tower(table, build, client, pool=pool, recipe=recipe, window=window, chooser=chooser)
            self.assertEqual(moves_of(tower["table"]), moves_of(plain_web(table, client)))
            for name, settings in wanted.items():
                space = Space(build, client, **settings)
                self.assertEqual(moves_of(tower[name]), moves_of(space.web), name)
                self.assertIs(tower.space(name).web, tower[name])
                for at in range(0, len(space.web), 7):
                    self.assertEqual(tower.space(name).memory(at), space.memory(at))
                    self.assertEqual(tower.space(name).pending(at, 0), space.pending(at, 0))

    def test_the_chooser_stands_under_the_rung_above(self):
        client = [once("up"), once("up")]
        chooser = Chooser.ranked(2)
        table = table_of(Ticket(3))
        tower = Tower(table, build_of(SAFE, GET), client, chooser=chooser)
        self.assertEqual(moves_of(tower["chooser"]), moves_of(Space(build_of(SAFE, GET), client, chooser=chooser).web))
        tower = Tower(table, build_of(COUNT, GET), client, chooser=chooser)
        space = Space(build_of(COUNT, GET), client, joined=True, chooser=chooser)
        self.assertEqual(moves_of(tower["chooser"]), moves_of(space.web))

    def test_fences_of_other_books_are_no_matter_in_order(self):
        build = build_of(Operation("up", [("fence", "odd", None), ("give", (0,), None)]))
        table = Table({"up": [(0, 0)]})
        self.assertEqual(Tower(table, build, [once("up")]).rungs(), ["table", "joined"])

    def test_other_names(self):
        tower = Tower(table_of(Ticket(3)), build_of(COUNT), [once("up")], book=Book.strict())
        for name in ("opened", "whole", "", None, 0, ["book"], "recipe", "Book"):
            looks = [lambda: tower[name], lambda: tower.space(name), lambda: tower.word(name)]
            if name != "whole":
                looks.append(lambda: tower.game(name))
            for look in looks:
                with self.assertRaises(NoRung) as caught:
                    look()
                self.assertIs(caught.exception.name, name)
        for look in (tower.space, tower.word, tower.game):
            with self.assertRaises(NoRung):
                look("table")
        self.assertEqual(len(tower["table"]), 4)


class WordsTest(unittest.TestCase):
    def test_words_and_games(self):
        seen = {}
        for seed, table, build, client, settings, tower in drawn_towers(range(120)):
            names = tower.rungs()
            for above, name in zip(names, names[1:]):
                game = tower.game(name)
                self.assertEqual((moves_of(game.low), moves_of(game.high)), (moves_of(tower[name]), moves_of(tower[above])))
                self.assertEqual(tower.word(name), Game(tower[name], tower[above]).word())
                seen[name, tower.word(name)] = True
            whole = tower.game("whole")
            self.assertEqual((moves_of(whole.low), moves_of(whole.high)), (moves_of(tower[names[-1]]), moves_of(tower["table"])))
            self.assertEqual(tower.whole(), Game(tower[names[-1]], tower["table"]).word())
            seen[tower.whole()] = True
        for found in [("joined", "never"), ("joined", "at once"), ("opened", "at once"), "at once", "never"]:
            self.assertIn(found, seen)

    def test_a_count_that_is_lost(self):
        client = [once("up"), once("up")]
        table = table_of(Ticket(3))
        tower = Tower(table, build_of(COUNT), client)
        self.assertEqual((tower.word("joined"), tower.whole()), ("never", "never"))
        tower = Tower(table, build_of(SAFE), client, book=Book.loose())
        self.assertEqual([tower.word(name) for name in tower.rungs()[1:]] + [tower.whole()], ["at once"] * 4)

    def words(self, build, client, table=None, **more):
        tower = Tower(table or lone_table(build), build, client, **more)
        return [(name, tower.word(name)) for name in tower.rungs()[1:]], tower.whole()

    def test_each_rung_can_be_the_wrong_one(self):
        twice = Operation("up", [("lock", "m"), ("write", "x", (1,), None), ("write", "x", (2,), None), ("free", "m"),
                                 ("give", (0,), None)])
        self.assertEqual(self.words(build_of(twice, GET), [once("up"), once("look")]), (
            [("joined", "at once"), ("opened", "never")], "never"))
        one, other = [Operation(name, [("write", cell, (1,), None), ("read", "a", end, None), ("give", ("a",), None)])
                      for name, cell, end in [("one", "x", "y"), ("other", "y", "x")]]
        build = Build(2, {"x": 0, "y": 0}, [one, other])
        client = [once("one"), once("other")]
        self.assertEqual(self.words(build, client, book=Book.buffered())[0][1], ("book", "never"))
        self.assertEqual(self.words(build, client, book=Book.strict())[0][1], ("book", "at once"))
        bad = Recipe(Book.strict(), Book.loose())
        self.assertEqual(self.words(build, client, recipe=bad)[0][1:], [("book", "at once"), ("recipe", "never")])
        take = Operation("up", [("take", "p", None), ("read", "q", "top", None), ("write", "top", ("p",), None),
                                ("drop", "p", None), ("give", (1,), ("p", "=", ("q",))), ("give", (0,), None)])
        self.assertEqual(self.words(node_build(take), [once("up", "up")], pool=Pool("last", 1)), (
            [("joined", "at once"), ("pool", "never")], "never"))

    def test_a_wrong_rung_below_a_wrong_one(self):
        """The table of a count that goes astray is wrong from the start, and the rungs below make no difference."""
        table = table_of(Ticket(2))
        self.assertEqual(self.words(build_of(COUNT), [once("up", "up", "up")], table=table, book=Book.strict()), (
            [("joined", "never"), ("book", "at once")], "never"))

    def test_afterwards(self):
        """Which of the calls of f came first is not told before what g has read is written."""
        f = Operation("f", [("read", "b", "y", None), ("swap", "a", "x", ("b",), None), ("give", ("a",), None)])
        g = Operation("g", [("read", "b", "x", None), ("swap", "b", "y", (1,), None), ("give", (0,), None)])
        build = Build(2, {"x": 0, "y": 0}, [f, g])
        client = [once("g"), once("f"), once("f")]
        self.assertEqual(self.words(build, client, book=Book.strict()), (
            [("joined", "afterwards"), ("book", "at once")], "afterwards"))
        tower = Tower(lone_table(build), build, client)
        with self.assertRaises(NotAtOnce) as caught:
            tower.papers()
        self.assertEqual(caught.exception.name, "joined")

    def test_webs_too_large_to_play(self):
        # The machine does nothing, in many standings, and the table has as many.
        build = Build(2, {"x": 0}, [Operation("up", [("write", "x", (0,), None)] * 9 + [("give", (0,), None)])])
        wide = Table({"up": [(0, (state + 1) % 50) for state in range(50)]})
        tower = Tower(wide, build, [always("up")] * 3)
        with self.assertRaises(TooLarge) as caught:
            tower.whole()
        self.assertEqual(caught.exception.bound, 20000)
        for look in (tower.papers, tower.paper, lambda: tower.word("joined"), lambda: tower.game("whole")):
            with self.assertRaises(TooLarge):
                look()


class PapersTest(unittest.TestCase):
    def test_papers_from_the_lowest_up(self):
        done = 0
        for seed, table, build, client, settings, tower in drawn_towers(range(200, 300), locks=0.8):
            names = tower.rungs()
            words = [(name, tower.word(name)) for name in names[:0:-1]]
            wrong = [name for name, word in words if word != "at once"]
            if wrong:
                for look in (tower.papers, tower.paper):
                    with self.assertRaises(NotAtOnce) as caught:
                        look()
                    self.assertEqual(caught.exception.name, wrong[0])
                continue
            done += 1
            papers = tower.papers()
            self.assertEqual(len(papers), len(words))
            for (name, _), paper in zip(words, papers):
                self.assertEqual(list(paper), list(tower.game(name).paper()))
            pairs = set(papers[0])
            for paper in papers[1:]:
                pairs = {(x, z) for x, y in pairs for other, z in paper if other == y}
            joint = tower.paper()
            self.assertEqual(list(joint), sorted(pairs))
            self.assertIsNone(joint.fault())
            self.assertTrue(is_paper(moves_of(tower[names[-1]]), moves_of(tower["table"]), pairs))
            self.assertEqual(tower.whole(), "at once")
        self.assertGreater(done, 10)

    def test_lists_are_new_each_time(self):
        tower = Tower(table_of(Ticket(3)), build_of(SAFE), [once("up")])
        tower.papers().clear()
        self.assertEqual(len(tower.papers()), 2)


class BlameTest(unittest.TestCase):
    def test_blame(self):
        seen = {}
        for seed, table, build, client, settings, tower in drawn_towers(range(300, 420)):
            names = tower.rungs()
            run = tower.game("whole").shortest()
            runs = [[]] + ([] if run is None else [run, self.longer(tower, run)])
            for run in runs:
                history = shown(run)
                told = tower.blame(run)
                if tower["table"].lacks(history) is None:
                    self.assertIsNone(told)
                    continue
                wanted = [low for low, high in zip(names[::-1], names[-2::-1])
                          if tower[low].lacks(history) is None and tower[high].lacks(history) is not None][0]
                self.assertEqual(told, wanted)
                self.assertEqual(tower.word(told), "never")
                seen[told] = True
        self.assertGreaterEqual(set(seen), {"joined", "book"})

    def longer(self, tower, run):
        web = tower[tower.rungs()[-1]]
        moves = web.moves(web.go(run))
        return run + [moves[0][0]] if moves else run

    def test_a_history_that_a_rung_between_lacks_may_still_be_right(self):
        """Only what the table lacks is blamed."""
        take = Operation("up", [("take", "p", None), ("drop", "p", None), ("take", "q", None),
                                ("give", (1,), ("p", "=", ("q",))), ("drop", "q", None), ("give", (0,), None)])
        build = node_build(take)
        tower = Tower(Table({"up": [(1, 0)]}), build, [once("up")], pool=Pool("last", 1))
        run = [call("up"), step(), step(), step(), back(1)]
        self.assertEqual([shown(run) in tower[name] for name in tower], [True, False, True])
        self.assertIsNone(tower.blame(run))
        zero = Tower(Table({"up": [(0, 0)]}), build, [once("up")], pool=Pool("last", 1))
        self.assertEqual(zero.blame(run), "pool")

    def test_wrong_runs(self):
        tower = Tower(table_of(Ticket(3)), build_of(SAFE), [once("up")])
        for run, at in [([step()], 0), ([call("up"), back(0)], 1), ([call("up"), None], 1), ([call("odd")], 0)]:
            with self.assertRaises(BadRun) as caught:
                tower.blame(run)
            self.assertEqual(caught.exception.at, at)
        self.assertIsNone(tower.blame([]))


class ByRuleTest(unittest.TestCase):
    def test_lockstep_with_the_rung_above(self):
        seen = {}
        for seed, table, build, client, settings, tower in drawn_towers(range(500, 620)):
            names = tower.rungs()
            for name in ("pool", "recipe", "chooser"):
                if name not in names:
                    with self.assertRaises(NoRung) as caught:
                        by_rule(tower, name)
                    self.assertEqual(caught.exception.name, name)
                    continue
                told = by_rule(tower, name)
                wanted = lockstep(tower[name], tower[names[names.index(name) - 1]])
                seen[name, told is None] = True
                self.assertEqual(told is None, wanted is None)
                if told is not None:
                    self.assertEqual(list(told), list(wanted))
                    self.assertIsNone(told.fault())
        self.assertGreaterEqual(set(seen), {("pool", False), ("recipe", False), ("chooser", False)})
        self.assertNotIn(("chooser", True), seen)

    def test_none_where_the_rung_has_more_runs(self):
        build = build_of(Operation("up", [("write", "x", (1,), None), ("give", (0,), None)]))
        tower = Tower(table_of(Ticket(3)), build, [once("up")], recipe=Recipe(Book.strict(), Book.loose()))
        self.assertIsNone(by_rule(tower, "recipe"))
        take = Operation("up", [("take", "p", None), ("read", "q", "top", None), ("write", "top", ("p",), None),
                                ("drop", "p", None), ("give", (1,), ("p", "=", ("q",))), ("give", (0,), None)])
        for size, gone in [(1, True), (2, False)]:
            tower = Tower(table_of(Ticket(3)), node_build(take), [once("up", "up")], pool=Pool("first", size))
            self.assertIs(by_rule(tower, "pool") is None, gone)

    def test_other_rungs(self):
        tower = Tower(table_of(Ticket(3)), build_of(SAFE), [once("up")], book=Book.strict())
        for name in ("table", "joined", "opened", "book", "whole", "pool", "", None, 0, ["pool"]):
            with self.assertRaises(NoRung) as caught:
                by_rule(tower, name)
            self.assertIs(caught.exception.name, name)


class RefusalsTest(unittest.TestCase):
    def setUp(self):
        fence = Operation("odd", [("fence", "soft", None), ("give", (0,), None)])
        self.build = node_build(TAKE, fence, limit=2)
        self.bad = {"book": Book.strict(), "recipe": Recipe(Book.strict(), Book.strict()), "window": 4,
                    "pool": Pool("last", 1), "chooser": Chooser.free(2)}

    def refused(self, error, client, *names, table=None, **more):
        settings = {name: self.bad[name] for name in names}
        settings.update(more)
        with self.assertRaises(error) as caught:
            Tower(table or Table({"look": [(0, 0)]}), self.build, client, **settings)
        return list(vars(caught.exception).values())

    def test_the_order_of_refusals(self):
        client = [once("up", "odd")]
        every = list(self.bad)
        self.assertEqual(self.refused(BadClient, [], *every), [0])
        self.assertEqual(self.refused(BadClient, [once()], *every), [0])
        self.assertEqual(self.refused(NoOperation, [once("g")], *every), ["g"])
        self.assertEqual(self.refused(BadSetting, client, *every), ["recipe"])
        self.assertEqual(self.refused(BadNumber, client, *every[1:]), [4])
        self.assertEqual(self.refused(BadPool, client, "recipe", "pool", "chooser"), [1])
        self.assertEqual(self.refused(BadSetting, client, "book", "chooser"), ["chooser"])
        self.assertEqual(self.refused(NoFence, client, "book"), ["soft"])
        self.assertEqual(self.refused(NoFence, client, "recipe"), ["soft"])
        self.assertEqual(self.refused(NoOperation, client), ["up"])
        self.assertEqual(self.refused(NoOperation, client, table=Table({"up": [(0, 0)]})), ["odd"])

    def test_names_of_the_table_come_behind_all_settings(self):
        self.assertEqual(self.refused(BadNumber, [once("up")], window=True), [True])
        self.assertEqual(self.refused(NoOperation, [((("odd", "up"),), True)], table=Table({"odd": [(0, 0)]})), ["up"])

    def test_too_many_standings(self):
        build = Build(5, {"x": 0}, [COUNT, GET])
        client = [always("up", "look")] * 3
        with self.assertRaises(TooLarge) as caught:
            Tower(table_of(Ticket(5)), build, client)
        self.assertEqual(caught.exception.bound, 4000)
        with self.assertRaises(NoOperation):
            Tower(Table({"up": [(0, 0)]}), build, client)
        # The plain web may be too large as well.
        nop = Build(2, {}, [Operation("up", [("give", (0,), None)]), Operation("look", [("give", (0,), None)])])
        wide = Table({name: [(state % 10, (state + 1) % 99) for state in range(99)] for name in ("up", "look")})
        with self.assertRaises(TooLarge) as caught:
            Tower(wide, nop, client)
        self.assertEqual(caught.exception.bound, 4000)


class KeptTest(unittest.TestCase):
    def test_a_recipe_that_is_changed_later(self):
        build = build_of(Operation("up", [("write", "x", (1,), None), ("give", (0,), None)]), GET)
        client = [once("up", "look"), once("look")]
        recipe = Recipe(Book.strict(), Book.loose())
        table = Table({"up": [(0, 1), (0, 1)], "look": [(0, 0), (1, 1)]})
        tower = Tower(table, build, client, recipe=recipe, window=3)
        before = [moves_of(tower[name]) for name in tower]
        recipe["write"] = ((), "release", ("full",))
        recipe["return"] = ("full",)
        self.assertEqual([moves_of(tower[name]) for name in tower], before)
        self.assertEqual(tower.word("recipe"), Game(tower["recipe"], tower["book"]).word())
        changed = Tower(table, build, client, recipe=recipe, window=3)
        self.assertNotEqual(moves_of(changed["recipe"]), before[-1])

    def test_a_client_that_is_changed_later(self):
        client = [once("up")]
        tower = Tower(table_of(Ticket(3)), build_of(SAFE), client)
        client.append(once("up"))
        self.assertEqual(len(tower["table"]), 4)
        self.assertEqual(tower.space("joined").called(0, 0), None)


class FactsTest(unittest.TestCase):
    """The facts of points 40, 44 and 46 on drawn towers."""

    def test_papers_and_words(self):
        for seed, table, build, client, settings, tower in drawn_towers(range(700, 820)):
            words = {name: tower.word(name) for name in tower.rungs()[1:]}
            if set(words.values()) == {"at once"}:
                self.assertEqual(tower.whole(), "at once")
            if tower.whole() == "never":
                self.assertIn("never", words.values())
            self.assertEqual(words.get("chooser", "at once"), "at once")
            if "recipe" in settings and not lost(settings["recipe"]):
                self.assertEqual(words["recipe"], "at once")
                self.assertIsNotNone(by_rule(tower, "recipe"))

    def test_recipes_that_lose_no_pair(self):
        done = 0
        for seed in range(60):
            source = random.Random(seed)
            build = random_build(seed, most=3, linked=False)
            recipe = random_recipe(source, random_book(source), chance=0.8)
            if lost(recipe):
                continue
            try:
                tower = Tower(lone_table(build), build, random_client(source, build.names()), recipe=recipe,
                              window=2 + seed % 2)
            except ValueError:
                continue
            done += 1
            self.assertIsNotNone(by_rule(tower, "recipe"))
            self.assertEqual(tower.word("recipe"), "at once")
        self.assertGreater(done, 10)

    def test_tables_that_are_alike(self):
        for seed, table, build, client, settings, tower in drawn_towers(range(820, 860)):
            # The states in another order, each twice.
            rows = {name: [(table(name, at // 2)[0], 2 * table(name, at // 2)[1] + at % 2) for at in range(2 * table.size)]
                    for name in table.names()}
            if 2 * table.size <= 100:
                other = Tower(Table(rows, 2 * table.first + 1), build, client, **settings)
                self.assertEqual(other.whole(), tower.whole())

    def test_callers_who_may_always_call_all_have_the_weakest_word(self):
        seen = set()
        for seed, table, build, client, settings, tower in drawn_towers(range(860, 1000)):
            if "chooser" in settings:
                continue
            try:
                weakest = Tower(table, build, [always(*build.names())] * len(client), **settings).whole()
            except TooLarge:
                continue
            seen.add((tower.whole(), weakest))
            self.assertLessEqual(ORDER.index(tower.whole()), ORDER.index(weakest))
        self.assertIn(("at once", "never"), seen)

    def test_builds_side_by_side(self):
        seen = set()
        for seed in range(120):
            source = random.Random(seed)
            first = self.small(source, "f", "x", "m")
            second = self.small(source, "g", "y", "k")
            settings = {} if seed % 3 else {"book": Book.buffered(), "window": 2}
            try:
                parts = [self.tower([build], settings) for build in (first, second)]
                joint = self.tower([first, second], settings)
            except TooLarge:
                continue
            words = [part.whole() for part in parts]
            seen.add(tuple(sorted(words)))
            self.assertEqual(joint.whole(), max(words, key=ORDER.index))
        self.assertGreaterEqual(seen, {("at once", "at once"), ("at once", "never"), ("never", "never")})

    def small(self, source, name, cell, lock):
        steps = [("read", "a", cell, None), ("write", cell, source.choice([("a", 1), (1,), (0,)]), None)]
        steps = steps[:source.choice([1, 2, 2])]
        if source.random() < 0.5:
            steps = [("lock", lock)] + steps + [("free", lock)]
        return Build(2, {cell: 0}, [Operation(name, steps + [("give", ("a",), None)])])

    def tower(self, builds, settings):
        tables = [lone_table(build) for build in builds]
        build = builds[0] if len(builds) == 1 else builds[0] + builds[1]
        table = tables[0] if len(tables) == 1 else tables[0] + tables[1]
        return Tower(table, build, [always(*build.names())] * 2, **settings)

    def test_choosers_and_ends(self):
        done = 0
        for seed, table, build, client, settings, tower in drawn_towers(range(1000, 1060)):
            if "chooser" not in settings:
                continue
            done += 1
            names = tower.rungs()
            above, under = Ends(tower[names[-2]]), Ends(tower["chooser"])
            self.assertTrue(above.stuck() or not under.stuck())
            self.assertTrue(under.some() or not above.some())
        self.assertGreater(done, 5)


class LockingTest(unittest.TestCase):
    """Machines whose programs keep a rule (points 33 and 34)."""

    def build(self, source, rule):
        return Build(2, {}, [Operation(name, self.program(source, rule)) for name in ("pa", "pb", "pc")])

    def program(self, source, rule):
        while True:
            steps, held = [], ()
            while not steps or held:
                taken = list(rule[held])
                if taken and (not held or source.random() < 0.6):
                    name = source.choice(taken)
                    steps.append(("lock", name))
                    held = tuple(lock for lock in rule.locks() if lock in held or lock == name)
                elif held:
                    name = source.choice(held)
                    steps.append(("free", name))
                    held = tuple(lock for lock in held if lock != name)
                else:
                    return [("give", (0,), None)]
            if rule.keeps(steps):
                return steps + [("give", (0,), None)]

    def test_machines_are_stuck_only_by_rules_that_are(self):
        locks = ("a", "b", "c")
        stuck = {True: 0, False: 0}
        every = list(Rule.every(locks))
        for seed in range(80):
            source = random.Random(seed)
            rule = Rule(locks, [entry for entry in every if source.random() < 0.6])
            space = Space(self.build(source, rule), [once("pa"), once("pb"), once("pc")])
            ends = Ends(space.web)
            if ring_of(rule) is None:
                stuck[False] += 1
                self.assertFalse(ends.stuck())
            elif ends.stuck():
                stuck[True] += 1
        self.assertGreater(min(stuck.values()), 5)

    def test_rings_are_stuck_machines(self):
        for rule in (Rule.every(("a", "b")), Rule(("a", "b", "c"), [
                ((), "a"), ((), "b"), ((), "c"), (("a",), "b"), (("b",), "c"), (("c",), "a")])):
            ring = ring_of(rule)
            build, client = ring.as_build(), ring.as_client()
            table = Table({name: [(0, 0)] for name in build.names()})
            tower = Tower(table, build, client)
            self.assertEqual([tower.word(name) for name in ("joined", "opened")], ["at once", "at once"])
            ends = [Ends(tower[name]).stuck() for name in tower]
            self.assertEqual(ends, [False, False, True])
            run = [call(build.names()[at], at) for at in range(len(client))] + [step(0, at) for at in ring.order]
            space = tower.space("opened")
            at = space.web.go(run)
            self.assertEqual(space.web.moves(at), [])
            wants = [space.pending(at, caller)[0][:2] for caller in range(len(client))]
            self.assertEqual(wants, [("lock", name) for name in ring.wants])


if __name__ == "__main__":
    unittest.main()
