import random
import time
import unittest

from coretower.books import PAIRS, Book
from coretower.clients import always, once
from coretower.errors import (
    BadClient, BadChooser, BadEntry, BadFence, BadName, BadNumber, BadPair, BadPool, BadRow, BadStep, BadTable, BadText, NoCell,
    NoRow, NoThing, SameName, TooLarge)
from coretower.reader import page_of
from coretower.towers import Tower
from coretower.writer import told
from tests.forms import first_fault
from tests.samples import moves_of

TABLE = ["table t 0", "op up 0:1 1:2 2:0", "op look 0:0 1:1 2:2", "end"]
BUILD = ["build b 3 1", "cell x 0", "cell top 0", "field val", "links top,p", "op up 1 0", "lock m", "read a x",
         "write x a+1 if b = 0", "free m", "take p", "write val@p 1", "drop p if p ! 0", "fence full", "cas b x a 1+1",
         "give a", "op look 0 3", "acquire a x if b < 2", "give a+b+1", "end"]
CLIENT = ["client c", "caller once up look", "caller again up,look", "end"]
BOOKS = ["book k", "keep read>read write>return", "fence soft", "fence hard both>both read>write", "end", "book m", "end"]
RECIPE = ["recipe r k m", "row read acquire - full", "row soft full", "row return -", "end"]
RULE = ["rule u a,b", "entry - a", "entry a b", "end"]
PLAN = ["plan p", "guard x m", "guard val k", "end"]
POOL = ["pool o first 2", "end"]
CHOOSER = ["chooser s 2", "state 0,1 0 0", "state 1|0 1 0", "end"]
TOWER = ["tower w t b c", "pool o", "recipe r", "window 3", "chooser s", "end"]
ALL = TABLE + BUILD + CLIENT + BOOKS + RECIPE + RULE + PLAN + POOL + CHOOSER + TOWER


def text_of(lines):
    return "".join(line + "\n" for line in lines)


class ReadingTest(unittest.TestCase):
    def test_all_kinds(self):
        page = page_of(text_of(ALL))
        self.assertEqual([(name, page.kind(name)) for name in page], [
            ("t", "table"), ("b", "build"), ("c", "client"), ("k", "book"), ("m", "book"), ("r", "recipe"), ("u", "rule"),
            ("p", "plan"), ("o", "pool"), ("s", "chooser"), ("w", "tower")])
        table = page["t"]
        self.assertEqual((table.names(), table.size, table.first, table("up", 1)), (["up", "look"], 3, 0, (1, 2)))
        build = page["b"]
        self.assertEqual((build.base, build.limit, build.cells(), build.fields(), build.links()), (
            3, 1, {"x": 0, "top": 0}, ["val"], ["p", "top"]))
        self.assertEqual(build["up"].steps(), [
            ("lock", "m"), ("read", "a", "x", None), ("write", "x", ("a", 1), ("b", "=", (0,))), ("free", "m"), ("take", "p", None),
            ("write", ("val", "p"), (1,), None), ("drop", "p", ("p", "!", (0,))), ("fence", "full", None),
            ("cas", "b", "x", ("a",), (1, 1), None), ("give", ("a",), None)])
        self.assertEqual((build["look"].turns, build["look"].otherwise, build["up"].turns), (0, 3, 1))
        self.assertEqual(build["look"].steps(), [("acquire", "a", "x", ("b", "<", (2,))), ("give", ("a", "b", 1), None)])
        self.assertEqual(page["c"], [once("up", "look"), always("up", "look")])
        book = page["k"]
        self.assertEqual((list(book.kept), book.fences(), list(book.fence("soft")), list(book.fence("hard"))), (
            [("read", "read"), ("write", "return")], ["full", "hard", "soft"], [], [("read", "write"), ("both", "both")]))
        self.assertEqual((len(page["m"].kept), page["m"].fences()), (0, ["full"]))
        source, target, recipe = page["r"]
        self.assertEqual((source, target, recipe.source, recipe.target), ("k", "m", book, page["m"]))
        self.assertEqual([recipe[name] for name in ("read", "write", "soft", "hard", "return")], [
            ((), "acquire", ("full",)), ((), "write", ()), ("full",), ("full",), ()])
        self.assertEqual((page["u"].locks(), list(page["u"])), (["a", "b"], [((), "a"), (("a",), "b")]))
        self.assertEqual([(name, page["p"][name]) for name in page["p"]], [("val", "k"), ("x", "m")])
        self.assertEqual((page["o"].rule, page["o"].size), ("first", 2))
        self.assertEqual(page["s"].states(), [(((0, 1),), (0, 0)), (((1,), (0,)), (1, 0))])
        self.assertEqual(page["w"], {"table": "t", "build": "b", "client": "c", "pool": "o", "recipe": "r", "window": 3,
                                     "chooser": "s"})

    def test_told_again(self):
        text = told(page_of(text_of(ALL)))
        self.assertEqual(told(page_of(text)), text)
        self.assertIsNone(first_fault(text))

    def test_an_empty_text(self):
        self.assertEqual(list(page_of("")), [])

    def test_nothing_that_may_be_left_out(self):
        page = page_of(text_of(["book k", "end", "build b 2 0", "op f 1 0", "give 0", "end", "recipe r k k", "end", "rule u a",
                                "end", "plan p", "end", "table t 0", "op f 0:0", "end", "client c", "caller once f", "end",
                                "tower w t b c", "end"]))
        self.assertEqual(page["w"], {"table": "t", "build": "b", "client": "c"})
        self.assertEqual(page.built("w").rungs(), ["table", "joined"])
        self.assertEqual((list(page["u"]), list(page["p"]), list(page["k"].kept)), ([], [], []))

    def test_where_the_order_is_free(self):
        page = page_of(text_of(["book k", "keep both>both read>read both>both", "fence z write>read", "fence b both>read read>both",
                                "end", "recipe r k k", "row z z,b,z", "row write release b,full,b -", "row return -", "end",
                                "rule u b,a", "entry b a", "entry - a", "entry b a", "end", "plan p", "guard y m", "guard a k",
                                "end", "build n 2 0", "links q,p,q", "op f 1 0", "give 0", "end"]))
        self.assertEqual(told(page).split("\n")[1:4], ["keep read>read both>both", "fence b read>both both>read", "fence z write>read"])
        self.assertEqual(page["r"][2]["z"], ("b", "z"))
        self.assertEqual(page["r"][2]["write"], (("b", "full"), "release", ()))
        self.assertEqual(list(page["u"]), [((), "a"), (("b",), "a")])
        self.assertEqual((list(page["p"]), page["n"].links()), (["a", "y"], ["p", "q"]))

    def test_links_may_be_none(self):
        page = page_of(text_of(["build n 2 0", "links -", "op f 1 0", "give 0", "end"]))
        self.assertEqual(told(page), text_of(["build n 2 0", "op f 1 0", "give 0", "end"]))

    def test_a_window_is_not_looked_at(self):
        page = page_of(text_of(TABLE + BUILD + CLIENT + ["tower w t b c", "window 999", "end"]))
        self.assertEqual(page["w"]["window"], 999)
        self.assertIn("window 999\n", told(page))

    def test_a_tower_against_one_made_by_hand(self):
        page = page_of(text_of([
            "table t 0", "op up 0:1 1:2 2:0", "op look 0:0 1:1 2:2", "end", "build b 3 0", "cell x 0", "op up 1 0", "lock m",
            "read a x", "write x a+1", "free m", "give a", "op look 1 0", "read a x", "give a", "end", "client c",
            "caller again up,look", "caller once up", "end", "book k",
            "keep " + " ".join(f"{a}>{b}" for a, b in PAIRS if b != "return" and not (a in ("write", "release") and b in (
                "read", "acquire"))), "end", "recipe r k k", "end", "chooser s 2", "state 0,1 0 0", "end",
            "tower w t b c", "recipe r", "window 3", "chooser s", "end"]))
        tower = page.built("w")
        self.assertEqual(list(page["k"].kept), list(Book.buffered().kept))
        wanted = Tower(page["t"], page["b"], [always("up", "look"), once("up")], recipe=page["r"][2], window=3, chooser=page["s"])
        self.assertEqual(tower.rungs(), wanted.rungs())
        for name in wanted:
            self.assertEqual(moves_of(tower[name]), moves_of(wanted[name]))
        self.assertEqual([tower.word(name) for name in tower.rungs()[1:]], ["at once"] * 5)
        self.assertEqual(tower.whole(), "at once")

    def test_speed(self):
        lines = []
        for number in range(60):
            name = "n" + "abcdefghij"[number // 10] + "abcdefghij"[number % 10]
            lines += [BUILD[0].replace(" b ", f" {name} ")] + BUILD[1:]
        begun = time.process_time()
        page = page_of(text_of(lines))
        self.assertEqual(told(page_of(told(page))), told(page))
        self.assertLess(time.process_time() - begun, 2)


class FormsTest(unittest.TestCase):
    def check(self, text):
        """Compare the reader with the patterns; returns the fault, and whether a block was wrong at its end before."""
        fault = first_fault(text)
        lines = text.split("\n")
        try:
            page_of(text)
        except BadText as error:
            if error.line == fault:
                self.assertIsNone(error.__cause__, text)
                return fault
            self.assertIsNotNone(error.__cause__, text)
            self.assertEqual(lines[error.line], "end")
            self.assertTrue(fault is None or error.line < fault)
            return error.line
        self.assertIsNone(fault, text)
        return None

    def refused(self, lines, line):
        text = text_of(lines) if isinstance(lines, list) else lines
        self.assertEqual(first_fault(text), line, text)
        with self.assertRaises(BadText) as caught:
            page_of(text)
        self.assertEqual(caught.exception.line, line, text)
        self.assertIsNone(caught.exception.__cause__)

    def test_each_line_with_words_too_many_and_too_few(self):
        for at, line in enumerate(ALL):
            words = line.split(" ")
            for other in [line + " ?", line + " zz?", "? " + line, " ".join(words[:-1] + ["?", words[-1]])]:
                self.refused(ALL[:at] + [other] + ALL[at + 1:], at)
            self.check(text_of(ALL[:at] + [" ".join(words[:-1])] + ALL[at + 1:]))
            self.check(text_of(ALL[:at] + [line + " a"] + ALL[at + 1:]))
            self.check(text_of(ALL[:at] + [line + " 0"] + ALL[at + 1:]))

    def test_blanks_and_odd_signs_in_each_line(self):
        for at, line in enumerate(ALL):
            odd = [" " + line, line + " ", line.replace(" ", "  ", 1) + ("" if " " in line else " "), "", " ", "\t" + line,
                   line + "\t", line + "\r", line.replace(" ", "\t", 1) + ("" if " " in line else "\t"), line.upper(), line + "\u00e9",
                   line + "\u00a0", "\ufeff" + line, line + "\x0b", line + "\u2028", "#" + line, line + "#"]
            for other in odd:
                self.refused(ALL[:at] + [other] + ALL[at + 1:], at)

    def test_each_word_changed(self):
        """Each word of each line in turn is made another one; often it has its form still."""
        words = ["a", "abcdefghi", "A", "0", "00", "01", "999", "1000", "-1", "+1", "-", "a,b", "a,", ",a", "a,,b", "a b", "1:2", "1:",
                 ":1", "1:2:3", "01:1", "a>b", "a>", ">a", "a>b>c", "read>read", "a@b", "a@", "@a", "a@b@c", "a+b", "a+", "+", "1+2+3+4+5",
                 "0|1", "0|", "|", "0,1|", "=", "if", "full", "end", "*", "op", "lock", "once", "again", "read", "both", "return",
                 "1.0", "1_0", "\u00b2", "\u0661"]
        faults = 0
        for at, line in enumerate(ALL):
            parts = line.split(" ")
            for place in range(len(parts)):
                for word in words:
                    other = " ".join(parts[:place] + [word] + parts[place + 1:])
                    faults += self.check(text_of(ALL[:at] + [other] + ALL[at + 1:])) is not None
        self.assertGreater(faults, 4000)

    def test_lines_left_out_twice_or_elsewhere(self):
        for at in range(len(ALL)):
            self.check(text_of(ALL[:at] + ALL[at + 1:]))
            self.check(text_of(ALL[:at] + [ALL[at]] + ALL[at:]))
            for line in ALL:
                self.check(text_of(ALL[:at] + [line] + ALL[at:]))

    def test_lines_of_an_unlike_stage(self):
        self.refused(["build b 2 0", "field f", "cell x 0"], 2)
        self.refused(["build b 2 0", "links p", "field f"], 2)
        self.refused(["build b 2 0", "links p", "links q"], 2)
        self.refused(["build b 2 0", "op f 1 0", "give 0", "links p"], 3)
        self.refused(["build b 2 0", "op f 1 0", "give 0", "cell x 0"], 3)
        self.refused(["build b 2 0", "links p", "give 0"], 2)
        self.refused(["build b 2 0", "lock m"], 1)
        self.refused(["book k", "fence a", "keep read>read"], 2)
        self.refused(["book k", "keep read>read", "keep read>read"], 2)
        self.refused(["book k", "keep"], 1)
        self.refused(["book k", "fence full"], 1)
        self.refused(["book k", "fence full read>read"], 1)
        for lines in (["window 3", "book k"], ["chooser s", "pool o"], ["book k", "recipe r"], ["book k", "book k"],
                      ["window 2", "window 2"], ["pool o", "pool o"], ["chooser s", "chooser s"]):
            self.refused(["tower w t b c"] + lines + ["end"], 2)
        self.refused(["pool o last 2", "op f 1 0"], 1)
        self.refused(["table t 0", "cell x 0"], 1)

    def test_heads_and_ends_that_lack(self):
        self.refused(["op up 0:0", "end"], 0)
        self.refused(["end"], 0)
        self.refused(["pool o last 2", "end", "end"], 2)
        self.refused(["pool o last 2"], 1)
        self.refused(["pool o last 2", "pool q last 2", "end"], 1)
        self.refused(["pool o last 2", "end", "table t 0", "op f 0:0"], 4)
        self.refused(["frog o last 2", "end"], 0)
        self.refused(["pool", "end"], 0)
        self.refused([""], 0)
        self.refused(["", "pool o last 2", "end"], 0)
        self.refused(["pool o last 2", "end", ""], 2)

    def test_a_last_line_without_a_line_feed(self):
        text = text_of(ALL)
        self.refused(text[:-1], len(ALL) - 1)
        self.refused(text + "pool", len(ALL))
        self.refused(text + " ", len(ALL))
        self.refused("pool o last 2", 0)
        self.refused("x", 0)
        self.refused("pool o last 2\nend", 1)
        self.refused("pool o last 2\n\nend", 1)

    def test_any_number_of_parts_of_a_worth(self):
        lines = ["build b 5 0", "op f 1 0", "give a+b+0+1+2", "end"]
        self.assertIsNone(first_fault(text_of(lines)))
        with self.assertRaises(BadText) as caught:
            page_of(text_of(lines))
        self.assertEqual((caught.exception.line, vars(caught.exception.__cause__)), (3, {"name": "f", "at": 0}))

    def test_texts_at_random(self):
        source = random.Random(5)
        signs = "abx019 +@>:|,-=!<\n"
        for _ in range(3000):
            text = text_of(ALL)
            for _ in range(source.randint(1, 3)):
                at = source.randrange(len(text))
                cut = at + source.choice([0, 1, 1, 2])
                text = text[:at] + "".join(source.choice(signs) for _ in range(source.choice([0, 1, 1, 2]))) + text[cut:]
            self.check(text)


class EndsTest(unittest.TestCase):
    """Blocks whose lines have their form but that make no thing."""

    def refused(self, lines, error, *worths, ahead=()):
        lines = list(ahead) + lines
        at = len(lines) - 1
        # A bad line behind the block is not come to.
        for more in ([], ["?"], ["end"], ["pool o last 2"]):
            text = text_of(lines + more)
            with self.assertRaises(BadText) as caught:
                page_of(text)
            self.assertEqual(caught.exception.line, at, lines)
            cause = caught.exception.__cause__
            self.assertIs(type(cause), error, lines)
            self.assertEqual(tuple(vars(cause).values()), worths, lines)
        # One ahead of its end is told instead.
        with self.assertRaises(BadText) as caught:
            page_of(text_of(lines[:-1] + ["?", "end"]))
        self.assertEqual((caught.exception.line, caught.exception.__cause__), (at, None))

    def test_tables(self):
        self.refused(["table t 0", "end"], BadTable, "")
        self.refused(["table t 0"] + [f"op {name} 0:0" for name in "abcdefg"] + ["end"], BadTable, "")
        self.refused(["table t 1", "op a 0:0", "end"], BadTable, "")
        self.refused(["table t 0", "op a 0:0", "op b 10:0", "end"], BadTable, "b")
        self.refused(["table t 0", "op a 0:1", "end"], BadTable, "a")
        self.refused(["table t 0", "op a 0:0 1:1", "op b 0:0", "end"], BadTable, "b")
        self.refused(["table t 0", "op a" + " 0:0" * 101, "end"], BadTable, "a")
        self.refused(["table t 0", "op a 0:0", "op b 0:0", "op a 0:0", "end"], SameName, "a")

    def build(self, *lines, head="build b 3 1"):
        return [head] + list(lines) + ["op f 1 0", "give 0", "end"]

    def test_builds(self):
        self.refused(self.build(head="build b 6 0"), BadNumber, 6)
        self.refused(self.build(head="build b 1 0"), BadNumber, 1)
        self.refused(self.build(head="build b 2 4"), BadNumber, 4)
        self.refused(self.build(*[f"cell {name} 0" for name in "abcdefg"]), TooLarge, 6)
        self.refused(self.build("cell x 3"), BadNumber, 3)
        self.refused(self.build("cell x 1", "links x"), BadNumber, 1)
        self.refused(self.build("cell x 0", "cell y 0", "cell x 0"), SameName, "x")
        self.refused(self.build("field x", "field y", "field z"), TooLarge, 2)
        self.refused(self.build("field x", "field x"), BadName, "x")
        self.refused(self.build("cell x 0", "field x"), BadName, "x")
        self.refused(["build b 3 1", "end"], TooLarge, 6)
        self.refused(["build b 3 1"] + [line for name in "abcdefg" for line in (f"op {name} 1 0", "give 0")] + ["end"], TooLarge, 6)
        self.refused(self.build("op f 1 0", "give 0"), SameName, "f")

    def test_steps(self):
        def steps(*rows, op="op g 1 0"):
            return ["build b 3 1", "cell x 0", "cell top 0", "field val", "links top,p,q", op] + list(rows) + ["end"]
        self.refused(steps(), BadStep, "g", 0)
        self.refused(steps(*["give 0"] * 81), BadStep, "g", 80)
        self.refused(steps("give 0", op="op g 5 0"), BadNumber, 5)
        self.refused(steps("give 0", op="op g 0 10"), BadNumber, 10)
        self.refused(steps("give 0", "give 10"), BadStep, "g", 1)
        self.refused(steps("give 1+1+1+1"), BadStep, "g", 0)
        self.refused(steps("give 1 if a = 10"), BadStep, "g", 0)
        self.refused(steps("lock m", "lock m", "free m"), BadStep, "g", 1)
        self.refused(steps("free m"), BadStep, "g", 0)
        self.refused(steps("lock m"), BadStep, "g", 1)
        self.refused(steps("give 0", "read a y"), BadStep, "g", 1)
        self.refused(steps("read a next@p"), BadStep, "g", 0)
        self.refused(steps("read a val@a"), BadStep, "g", 0)
        self.refused(steps("read a top"), BadStep, "g", 0)
        self.refused(steps("read p x"), BadStep, "g", 0)
        self.refused(steps("write top 1"), BadStep, "g", 0)
        self.refused(steps("write top p+q"), BadStep, "g", 0)
        self.refused(steps("take a"), BadStep, "g", 0)
        self.refused(steps("give 0 if p < q"), BadStep, "g", 0)
        self.refused(steps("give p"), BadStep, "g", 0)
        with self.assertRaises(BadText) as caught:
            page_of(text_of(steps("read a y")))
        self.assertIsInstance(caught.exception.__cause__.__cause__, NoCell)

    def test_steps_of_the_same_word_are_no_lines_of_the_same_name(self):
        page = page_of(text_of(["build b 3 0", "cell f 0", "op f 1 0", "fence full", "fence full", "read f f", "read f f", "give f",
                                "end"]))
        self.assertEqual(page["b"]["f"].steps()[:2], [("fence", "full", None)] * 2)

    def test_clients(self):
        self.refused(["client c", "end"], BadClient, 0)
        self.refused(["client c"] + ["caller once a"] * 4 + ["end"], BadClient, 3)
        self.refused(["client c", "caller once a", "caller again a,a", "end"], BadClient, 1)
        self.refused(["client c", "caller once -", "end"], BadClient, 0)
        self.refused(["client c", "caller once a a a a a", "end"], BadClient, 0)
        self.refused(["client c", "caller once a,b,c,d,e,f,g", "end"], BadClient, 0)

    def test_books(self):
        self.refused(["book k", "keep read>read read>return", "end"], BadPair, ("read", "return"))
        self.refused(["book k", "keep foo>read", "end"], BadPair, ("foo", "read"))
        self.refused(["book k", "fence a both>return", "end"], BadPair, ("both", "return"))
        self.refused(["book k", "fence a", "fence b", "fence c", "end"], TooLarge, 2)
        self.refused(["book k", "fence a", "fence write", "end"], BadFence, "write")
        self.refused(["book k", "fence return", "end"], BadFence, "return")
        self.refused(["book k", "fence a", "fence b", "fence a read>read", "end"], SameName, "a")

    def test_recipes(self):
        def recipe(*rows):
            return BOOKS + ["recipe r k m"] + list(rows) + ["end"]
        self.refused(recipe("row foo -"), NoRow, "foo")
        self.refused(recipe("row full soft"), BadRow, "full")
        self.refused(recipe("row read full"), BadRow, "read")
        self.refused(recipe("row read full,full,full"), BadRow, "read")
        self.refused(recipe("row read write - -"), BadRow, "read")
        self.refused(recipe("row both both hard -"), BadRow, "both")
        self.refused(recipe("row soft -", "row hard full", "row soft -"), SameName, "soft")
        self.refused(recipe("row read read - -", "row read acquire - -"), SameName, "read")
        self.refused(["recipe r k m", "end"], NoThing, "k")
        self.refused(BOOKS[:5] + ["recipe r k m", "end"], NoThing, "m")
        self.refused(BOOKS + ["recipe r m r", "end"], NoThing, "r")
        self.refused(BOOKS + POOL + ["recipe r k o", "row foo -", "end"], NoThing, "o")

    def test_rules(self):
        self.refused(["rule u -", "end"], TooLarge, 3)
        self.refused(["rule u a,b,c,d", "end"], TooLarge, 3)
        self.refused(["rule u a,b,a", "end"], BadName, "a")
        self.refused(["rule u a,b", "entry - a", "entry b,a c", "end"], BadEntry, (("b", "a"), "c"))
        self.refused(["rule u a,b", "entry a a", "end"], BadEntry, (("a",), "a"))

    def test_plans(self):
        self.refused(["plan p", "guard x m", "guard y m", "guard x k", "end"], SameName, "x")

    def test_pools(self):
        self.refused(["pool o frog 2", "end"], BadName, "frog")
        self.refused(["pool o last 0", "end"], BadPool, 0)
        self.refused(["pool o last 999", "end"], BadPool, 999)

    def test_choosers(self):
        self.refused(["chooser s 4", "end"], BadNumber, 4)
        self.refused(["chooser s 0", "end"], BadNumber, 0)
        self.refused(["chooser s 2", "end"], TooLarge, 12)
        self.refused(["chooser s 1"] + ["state 0 0"] * 13 + ["end"], TooLarge, 12)
        self.refused(["chooser s 2", "state 0,1 0 0", "state 0 0 0", "end"], BadChooser, 1)
        self.refused(["chooser s 2", "state 0|1 0 1", "end"], BadChooser, 0)
        self.refused(["chooser s 2", "state 0|1 0", "end"], BadChooser, 0)
        self.refused(["chooser s 2", "state 0|1,2 0 0", "end"], BadChooser, 0)

    def test_towers(self):
        ahead = TABLE + BUILD + CLIENT + BOOKS + RECIPE + POOL + CHOOSER
        for head, lines, name in [
                ("x b c", [], "x"), ("t x c", [], "x"), ("t b x", [], "x"), ("b b c", [], "b"), ("t t c", [], "t"), ("t b k", [], "k"),
                ("t b c", ["pool x"], "x"), ("t b c", ["pool t"], "t"), ("t b c", ["book r"], "r"), ("t b c", ["recipe k"], "k"),
                ("t b c", ["book x", "chooser y"], "x"), ("t b c", ["window 3", "chooser o"], "o"), ("w b c", [], "w"),
                ("t x c", ["pool y"], "x"), ("x y z", ["pool y"], "x"), ("t b later", [], "later")]:
            self.refused([f"tower w {head}"] + lines + ["end"], NoThing, name, ahead=ahead)
        text = text_of(ahead + ["tower w t b later", "end", "client later", "caller once up", "end"])
        with self.assertRaises(BadText) as caught:
            page_of(text)
        self.assertEqual(caught.exception.line, len(ahead) + 1)

    def test_names_that_stand_ahead(self):
        for block in (TABLE, CLIENT, POOL, RULE, PLAN, CHOOSER, BOOKS[:5]):
            name = block[0].split(" ")[1]
            self.refused([f"pool {name} last 1", "end"], SameName, name, ahead=block)
            self.refused(block, SameName, name, ahead=[f"pool {name} last 1", "end"])
        self.refused(RECIPE[:1] + ["end"], SameName, "r", ahead=BOOKS + ["plan r", "end"])
        self.refused(TOWER[:1] + ["end"], SameName, "w", ahead=TABLE + BUILD + CLIENT + ["plan w", "end"])

    def test_what_is_told_first_is_the_cause(self):
        ahead = ["plan t", "end", "plan r", "end", "plan w", "end", "book k", "end"]
        self.refused(["table t 0", "op a 5:5", "end"], BadTable, "a", ahead=ahead)
        self.refused(["table t 0", "op a 0:0", "op a 0:0", "end"], SameName, "t", ahead=ahead)
        self.refused(["plan r", "guard x m", "guard x m", "end"], SameName, "r", ahead=ahead)
        self.refused(["recipe r k x", "end"], SameName, "r", ahead=ahead)
        self.refused(["recipe z k x", "row read read - -", "row read read - -", "end"], SameName, "read", ahead=ahead)
        self.refused(["recipe z k k", "row foo -", "row foo -", "end"], NoRow, "foo", ahead=ahead)
        self.refused(["tower w x y z", "end"], SameName, "w", ahead=ahead)

    def test_the_earliest_line_is_told(self):
        lines = ["pool o last 9", "end", "pool q last 1", "?", "end"]
        with self.assertRaises(BadText) as caught:
            page_of(text_of(lines))
        self.assertEqual(caught.exception.line, 1)
        lines[0] = "pool o last 1"
        with self.assertRaises(BadText) as caught:
            page_of(text_of(lines))
        self.assertEqual(caught.exception.line, 3)


if __name__ == "__main__":
    unittest.main()
