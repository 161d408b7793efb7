import random
import unittest

from coretower.books import PAIRS, Book, Pairs
from coretower.builds import Build, Operation
from coretower.choosers import Chooser
from coretower.clients import always, once
from coretower.errors import NoThing
from coretower.locking import Rule
from coretower.pages import Page
from coretower.plans import Plan
from coretower.pools import Pool
from coretower.reader import page_of
from coretower.recipes import Recipe
from coretower.shapes import Ticket, table_of
from coretower.tables import Table
from coretower.writer import told, told_block
from tests.made import (
    random_book, random_build, random_chooser, random_client, random_recipe, random_row_build)
from tests.test_pages import full_page


def lines_of(kind, thing, name="n"):
    page = Page()
    page.put(name, kind, thing)
    lines = told_block(page, name)
    if told(page) != "".join(line + "\n" for line in lines):
        raise AssertionError("told and told_block differ")
    return lines


class BlocksTest(unittest.TestCase):
    def test_tables(self):
        self.assertEqual(lines_of("table", table_of(Ticket(3))), [
            "table n 0", "op up 0:1 1:2 2:0", "op look 0:0 1:1 2:2", "end"])
        row = [(9, state) for state in range(100)]
        self.assertEqual(lines_of("table", Table({"a": row}, 99)), [
            "table n 99", "op a " + " ".join(f"9:{state}" for state in range(100)), "end"])

    def test_builds_with_all_that_may_stand(self):
        steps = [
            ("lock", "m"), ("read", "a", "x", None), ("acquire", "b", ("val", "p"), ("a", "<", (1, "b"))),
            ("write", "x", (1, "a", 2), None), ("release", "y", ("a",), ("p", "!", ("q",))), ("free", "m"),
            ("swap", "p", "top", (0,), ("p", "=", (0,))), ("cas", "a", ("next", "q"), ("p",), (0,), None),
            ("fence", "soft", ("a", "=", (0, 0, 9))), ("take", "p", None), ("take", "q", ("a", "=", (1,))), ("drop", "p", None),
            ("drop", "q", ("b", "!", ("b",))), ("fence", "full", None), ("give", ("a", "b"), None), ("give", (7,), ("a", "<", (1,))),
            ("cas", "a", "x", (1, 1), ("b",), ("a", "=", (0,)))]
        build = Build(5, {"y": 4, "x": 0, "top": 0}, [Operation("up", steps, turns=0, otherwise=9), Operation("f", [("give", (0,), None)])],
                      fields=("val", "next"), links=("top", "q", "next", "p", "q"), limit=3)
        self.assertEqual(lines_of("build", build, "machine"), [
            "build machine 5 3", "cell y 4", "cell x 0", "cell top 0", "field val", "field next", "links next,p,q,top",
            "op up 0 9", "lock m", "read a x", "acquire b val@p if a < 1+b", "write x 1+a+2", "release y a if p ! q", "free m",
            "swap p top 0 if p = 0", "cas a next@q p 0", "fence soft if a = 0+0+9", "take p", "take q if a = 1", "drop p",
            "drop q if b ! b", "fence full", "give a+b", "give 7 if a < 1", "cas a x 1+1 b if a = 0", "op f 1 0", "give 0", "end"])

    def test_builds_with_nothing_that_may_be_left_out(self):
        self.assertEqual(lines_of("build", Build(2, {}, [Operation("f", [("give", (0,), None)], turns=4, otherwise=1)])), [
            "build n 2 0", "op f 4 1", "give 0", "end"])

    def test_clients(self):
        client = [once("up", "look"), always("up", "look"), ((("b", "a"), ("c",)), True)]
        self.assertEqual(lines_of("client", client), [
            "client n", "caller once up look", "caller again up,look", "caller again b,a c", "end"])

    def test_books(self):
        self.assertEqual(lines_of("book", Book(Pairs())), ["book n", "end"])
        self.assertEqual(lines_of("book", Book(Pairs([("both", "read")]))), ["book n", "keep both>read", "end"])
        book = Book(Pairs([("both", "read"), ("read", "both"), ("write", "return")]), fences={
            "z": Pairs([("write", "read")]), "b": Pairs()})
        self.assertEqual(lines_of("book", book), [
            "book n", "keep read>both write>return both>read", "fence b", "fence z write>read", "end"])
        every = " ".join(f"{first}>{second}" for first, second in PAIRS)
        self.assertEqual(lines_of("book", Book(Pairs(PAIRS[::-1]))), [
            "book n", "keep " + every, "end"])

    def test_recipes(self):
        page = Page()
        source = Book(Pairs(), fences={"soft": Pairs(), "z": Pairs()})
        target = Book(Pairs(), fences={"hard": Pairs(), "z": Pairs()})
        recipe = Recipe(source, target)
        recipe["write"] = (("z", "full"), "release", ())
        recipe["both"] = ((), "both", ("hard", "z", "full"))
        recipe["return"] = ("z", "hard")
        page.put("one", "book", source)
        page.put("two", "book", target)
        page.put("r", "recipe", ("one", "two", recipe))
        self.assertEqual(told_block(page, "r"), [
            "recipe r one two", "row acquire acquire - -", "row both both - full,hard,z", "row full full", "row read read - -",
            "row release release - -", "row return hard,z", "row soft full", "row write release full,z -", "row z z", "end"])

    def test_rules(self):
        self.assertEqual(lines_of("rule", Rule(("b",))), ["rule n b", "end"])
        rule = Rule(("b", "a", "c"), [(("b", "a"), "c"), ((), "c"), (("a",), "b"), ((), "b"), (("b",), "c"), (("b",), "a")])
        self.assertEqual(lines_of("rule", rule), [
            "rule n b,a,c", "entry - b", "entry - c", "entry b a", "entry b c", "entry a b", "entry b,a c", "end"])

    def test_plans(self):
        self.assertEqual(lines_of("plan", Plan({})), ["plan n", "end"])
        self.assertEqual(lines_of("plan", Plan({"y": "m", "a": "k", "val": "m"})), [
            "plan n", "guard a k", "guard val m", "guard y m", "end"])

    def test_pools(self):
        self.assertEqual(lines_of("pool", Pool("unheld", 4)), ["pool n unheld 4", "end"])

    def test_choosers(self):
        chooser = Chooser(3, [(((2, 0), (1,)), (1, 0, 1)), (((1,), (2,), (0,)), (0, 0, 0))])
        self.assertEqual(lines_of("chooser", chooser), ["chooser n 3", "state 2,0|1 1 0 1", "state 1|2|0 0 0 0", "end"])
        self.assertEqual(lines_of("chooser", Chooser.free(1)), ["chooser n 1", "state 0 0", "end"])

    def test_towers(self):
        parts = {"table": "t", "build": "b", "client": "c"}
        head = "tower n t b c"
        self.assertEqual(lines_of("tower", parts), [head, "end"])
        self.assertEqual(lines_of("tower", {**parts, "book": "k"}), [head, "book k", "window 2", "end"])
        self.assertEqual(lines_of("tower", {**parts, "recipe": "r"}), [head, "recipe r", "window 2", "end"])
        self.assertEqual(lines_of("tower", {**parts, "pool": "o", "chooser": "s"}), [head, "pool o", "chooser s", "end"])
        self.assertEqual(lines_of("tower", {**parts, "window": 3}), [head, "window 3", "end"])
        self.assertEqual(lines_of("tower", {"chooser": "s", "window": 7, "recipe": "r", "pool": "o", **parts}), [
            head, "pool o", "recipe r", "window 7", "chooser s", "end"])

    def test_unknown_names(self):
        page = full_page()
        for name in ("zz", "", None, 0, ["t"], ("t",)):
            with self.assertRaises(NoThing) as caught:
                told_block(page, name)
            self.assertIs(caught.exception.name, name)


class PagesTest(unittest.TestCase):
    def test_an_empty_page(self):
        self.assertEqual(told(Page()), "")

    def test_blocks_in_order(self):
        page = full_page()
        page.put("w", "tower", {"table": "t", "build": "b", "client": "c", "recipe": "r"})
        self.assertEqual(told(page), "".join(line + "\n" for name in page for line in told_block(page, name)))
        self.assertEqual(told(page_of(told(page))), told(page))

    def test_lists_are_new_each_time(self):
        page = full_page()
        told_block(page, "t").clear()
        self.assertEqual(told_block(page, "t")[0], "table t 0")

    def test_pages_at_random(self):
        for seed in range(150):
            source = random.Random(seed)
            page = self.random_page(source, seed)
            text = told(page)
            again = page_of(text)
            self.assertEqual(told(again), text)
            self.assertEqual([(name, again.kind(name)) for name in again], [(name, page.kind(name)) for name in page])
            self.assertEqual(again["c"], page["c"])
            self.assertEqual([step for name in again["b"] for step in again["b"][name].steps()],
                             [step for name in page["b"] for step in page["b"][name].steps()])
            self.assertEqual([again["r"][2][name] for name in again["r"][2]], [page["r"][2][name] for name in page["r"][2]])
            self.assertEqual(again["s"].states(), page["s"].states())
            self.assertEqual(list(again["u"]), list(page["u"]))

    def random_page(self, source, seed):
        page = Page()
        fences = ("soft",) if seed % 2 else ()
        build = random_row_build(seed) if seed % 5 == 0 else random_build(seed, fences=("full",) + fences)
        client = random_client(source, build.names())
        size = source.randint(1, 9)
        rows = {name: [(source.randrange(10), source.randrange(size)) for _ in range(size)] for name in build.names()}
        source_book = random_book(source, fences)
        recipe = random_recipe(source, source_book, ("hard",))
        page.put("t", "table", Table(rows, source.randrange(size)))
        page.put("b", "build", build)
        page.put("c", "client", client)
        page.put("k", "book", source_book)
        page.put("m", "book", recipe.target)
        page.put("r", "recipe", ("k", "m", recipe))
        locks = ("b", "a", "c")[:source.randint(1, 3)]
        page.put("u", "rule", Rule(locks, [entry for entry in Rule.every(locks) if source.random() < 0.5]))
        page.put("p", "plan", Plan({name: source.choice("mk") for name in build.cells()}))
        page.put("o", "pool", Pool(source.choice(["last", "first", "quiet", "unheld"]), source.randint(1, 4)))
        page.put("s", "chooser", random_chooser(source, len(client)))
        parts = {"table": "t", "build": "b", "client": "c"}
        more = {"pool": "o", source.choice(["book", "recipe"]): None, "window": source.choice([2, 3]), "chooser": "s"}
        more.update({part: {"book": "k", "recipe": "r"}[part] for part in more if part in ("book", "recipe")})
        page.put("w", "tower", {**parts, **{part: more[part] for part in more if source.random() < 0.5}})
        return page


if __name__ == "__main__":
    unittest.main()
