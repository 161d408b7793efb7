import unittest

from coretower.books import Book
from coretower.builds import Build, Operation
from coretower.choosers import Chooser
from coretower.clients import once
from coretower.errors import BadName, BadNumber, BadPool, BadSetting, NoOperation, NoThing, SameName
from coretower.locking import Rule
from coretower.pages import Page
from coretower.plans import Plan
from coretower.pools import Pool
from coretower.recipes import Recipe
from coretower.shapes import Ticket, table_of
from coretower.tables import Table
from coretower.towers import Tower
from coretower.writer import told
from tests.samples import moves_of

COUNT = Operation("up", [("read", "a", "x", None), ("write", "x", ("a", 1), None), ("give", ("a",), None)])


def things():
    """A thing of each kind but tower, by names that are not those of the kinds."""
    book, other = Book.buffered(), Book.loose()
    return {
        "t": ("table", table_of(Ticket(3))), "b": ("build", Build(3, {"x": 0}, [COUNT])), "c": ("client", [once("up")] * 2),
        "k": ("book", book), "m": ("book", other), "r": ("recipe", ("k", "m", Recipe(book, other))),
        "u": ("rule", Rule.every(("a", "b"))), "p": ("plan", Plan({"x": "m"})), "o": ("pool", Pool("first", 2)),
        "s": ("chooser", Chooser.rotating(2))}


def full_page():
    page = Page()
    for name, (kind, thing) in things().items():
        page.put(name, kind, thing)
    return page


PARTS = {"table": "t", "build": "b", "client": "c"}
MORE = {"pool": "o", "recipe": "r", "window": 3, "chooser": "s"}


class PutTest(unittest.TestCase):
    def test_an_empty_page(self):
        page = Page()
        self.assertEqual(list(page), [])
        for look in (page.kind, page.built, lambda name: page[name]):
            with self.assertRaises(NoThing) as caught:
                look("t")
            self.assertEqual(caught.exception.name, "t")

    def test_each_kind(self):
        page = Page()
        every = things()
        for name, (kind, thing) in every.items():
            self.assertIsNone(page.put(name, kind, thing))
        page.put("w", "tower", {**PARTS, **MORE})
        self.assertEqual(list(page), list(every) + ["w"])
        for name, (kind, thing) in every.items():
            self.assertEqual(page.kind(name), kind)
            self.assertEqual(page[name], thing)
            if not isinstance(thing, (list, tuple, dict)):
                self.assertIs(page[name], thing)
        self.assertIs(page["r"][2], every["r"][1][2])
        self.assertEqual((page.kind("w"), page["w"]), ("tower", {**PARTS, **MORE}))

    def test_names_that_are_no_names(self):
        page = full_page()
        before = told(page)
        for name in ("", "a b", "A", "abcdefghi", "a1", None, 0, True, ("a",), ["a"], {"a": 1}, b"a"):
            with self.assertRaises(BadName) as caught:
                page.put(name, "pool", Pool("last", 1))
            self.assertIs(caught.exception.name, name)
        self.assertEqual(told(page), before)

    def test_names_that_stand_already(self):
        page = full_page()
        before = told(page)
        for kind in ("pool", "table"):
            with self.assertRaises(SameName) as caught:
                page.put("t", kind, Pool("last", 1))
            self.assertEqual(caught.exception.name, "t")
        self.assertEqual((told(page), page.kind("t"), list(page)), (before, "table", list(things())))

    def test_unknown_names(self):
        page = full_page()
        for name in ("x", "", "table", None, 0, ["t"], ("t",), {"t": 1}):
            for look in (page.kind, lambda name: page[name], page.built):
                with self.assertRaises(NoThing) as caught:
                    look(name)
                self.assertIs(caught.exception.name, name)

    def test_lists_and_dicts_are_copied(self):
        page = full_page()
        client, parts = [once("up")], dict(PARTS)
        page.put("cc", "client", client)
        page.put("w", "tower", parts)
        client.append(once("up"))
        parts["pool"] = "o"
        page["cc"].append(None)
        page["w"]["book"] = "k"
        self.assertEqual((page["cc"], page["w"]), ([once("up")], PARTS))
        self.assertIsNot(page["cc"], page["cc"])
        self.assertIsNot(page["w"], page["w"])

    def test_things_of_this_package_are_kept_themselves(self):
        page = full_page()
        recipe = page["r"][2]
        recipe["write"] = ((), "release", ("full",))
        self.assertIs(page["r"][2], recipe)
        self.assertIn("row write release - full", told(page).split("\n"))

    def test_iteration_and_changes(self):
        page = full_page()
        names = list(page)
        page.put("z", "pool", Pool("last", 1))
        self.assertEqual(list(page), names + ["z"])


class BuiltTest(unittest.TestCase):
    def test_against_a_tower_made_by_hand(self):
        page, every = full_page(), {name: thing for name, (_, thing) in things().items()}
        cases = {"wa": {}, "wb": {"pool": "o"}, "wc": {"book": "k"}, "wd": {"book": "m", "window": 3}, "we": {"recipe": "r"},
                 "wf": {"recipe": "r", "window": 3, "pool": "o", "chooser": "s"}, "wg": {"window": 3}, "wh": {"chooser": "s"}}
        for name, more in cases.items():
            page.put(name, "tower", {**PARTS, **more})
            settings = {part: more[part] if part == "window" else every[more[part]] for part in more}
            if "recipe" in settings:
                settings["recipe"] = settings["recipe"][2]
            wanted = Tower(every["t"], every["b"], every["c"], **settings)
            tower = page.built(name)
            self.assertIsInstance(tower, Tower)
            self.assertEqual(tower.rungs(), wanted.rungs())
            for rung in wanted:
                self.assertEqual(moves_of(tower[rung]), moves_of(wanted[rung]))

    def test_blocks_that_are_no_towers(self):
        page = full_page()
        for name in page:
            with self.assertRaises(NoThing) as caught:
                page.built(name)
            self.assertEqual(caught.exception.name, name)

    def test_parts_that_lack_or_are_of_another_kind(self):
        names = {"table": "t", "build": "b", "client": "c", "pool": "o", "recipe": "r", "chooser": "s"}
        for part in list(names) + ["book"]:
            for wrong in ("zz", "t", "b", "k", "r", "w", "Bad name", None, 7, ["t"]):
                if things().get(wrong if isinstance(wrong, str) else "", ("",))[0] == part:
                    continue
                page = full_page()
                page.put("w", "tower", {**names, part: wrong, "window": 9})
                with self.assertRaises(NoThing) as caught:
                    page.built("w")
                self.assertIs(caught.exception.name, wrong)

    def test_the_first_of_several(self):
        order = ["table", "build", "client", "pool", "book", "recipe", "chooser"]
        for first in range(len(order)):
            page = full_page()
            good = {"table": "t", "build": "b", "client": "c", "pool": "o", "book": "k", "recipe": "r", "chooser": "s"}
            parts = {part: f"z{'abcdefg'[at]}" if at >= first else good[part] for at, part in enumerate(order)}
            page.put("w", "tower", {part: parts[part] for part in reversed(order)})
            with self.assertRaises(NoThing) as caught:
                page.built("w")
            self.assertEqual(caught.exception.name, parts[order[first]])

    def test_parts_are_not_looked_at_before(self):
        page = Page()
        page.put("w", "tower", {**PARTS, "window": 7, "book": "k"})
        with self.assertRaises(NoThing):
            page.built("w")
        for name, (kind, thing) in things().items():
            page.put(name, kind, thing)
        with self.assertRaises(BadNumber) as caught:
            page.built("w")
        self.assertEqual(caught.exception.number, 7)
        page.put("v", "tower", {**PARTS, "book": "k"})
        self.assertEqual(page.built("v").rungs(), ["table", "joined", "book"])

    def test_what_tower_raises(self):
        page = full_page()
        page.put("wide", "build", Build(3, {"x": 0}, [COUNT], limit=3))
        page.put("odd", "table", Table({"odd": [(0, 0)]}))
        page.put("one", "client", [once("up")])
        for name, parts, error in [
                ("wa", {"book": "k", "recipe": "r"}, BadSetting), ("wb", {"window": True}, BadNumber),
                ("wc", {"build": "wide", "pool": "o"}, BadPool), ("wd", {"client": "one", "chooser": "s"}, BadSetting),
                ("we", {"table": "odd"}, NoOperation)]:
            page.put(name, "tower", {**PARTS, **parts})
            with self.assertRaises(error):
                page.built(name)

    def test_a_recipe_is_taken_as_it_is_at_that_time(self):
        page = full_page()
        put = Operation("up", [("write", "x", (1,), None), ("give", (0,), None)])
        page.put("bb", "build", Build(2, {"x": 0}, [put]))
        page.put("w", "tower", {"table": "t", "build": "bb", "client": "c", "recipe": "r", "window": 3})
        tower = page.built("w")
        before = moves_of(tower["recipe"])
        page["r"][2]["return"] = ("full",)
        page["r"][2]["write"] = ((), "release", ("full",))
        self.assertEqual(moves_of(tower["recipe"]), before)
        self.assertNotEqual(moves_of(page.built("w")["recipe"]), before)


if __name__ == "__main__":
    unittest.main()
