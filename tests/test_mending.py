import itertools
import random
import unittest

from coretower.books import Book
from coretower.builds import Build, Operation
from coretower.choosers import Chooser
from coretower.clients import always, once
from coretower.errors import BadPlace, BadSetting, TooLarge
from coretower.likeness import alike
from coretower.lone import lone_table
from coretower.mending import Mend, fewest_places, mended, places
from coretower.pools import Pool
from coretower.recipes import Recipe
from coretower.shapes import Ticket, table_of
from coretower.tables import Table
from coretower.towers import Tower
from tests.made import random_book, random_object, random_recipe
from tests.samples import moves_of

ORDER = ("at once", "afterwards", "never")
GET = Operation("look", [("read", "a", "x", None), ("give", ("a",), None)])
COUNT = Operation("up", [("read", "a", "x", None), ("write", "x", ("a", 1), None), ("give", ("a",), None)])


def build_of(*operations):
    return Build(3, {"x": 0, "y": 0}, list(operations))


def steps_of(build):
    return [(name, build[name].steps(), build[name].turns, build[name].otherwise) for name in build]


def long_operation(name, many):
    return Operation(name, [("write", "x", (0,), None)] * many)


class PlacesTest(unittest.TestCase):
    def test_sections_first_then_accesses(self):
        steps = [("lock", "m"), ("acquire", "a", "x", None), ("fence", "full", None), ("release", "x", ("a",), None),
                 ("swap", "a", "x", ("a",), None), ("free", "m"), ("cas", "b", "x", ("a",), (1,), None), ("give", (0,), None)]
        build = build_of(Operation("up", steps), GET)
        self.assertEqual(places(build), [("section", "up"), ("section", "look"), ("fence", "up", 1), ("fence", "up", 3),
                                         ("fence", "up", 4), ("fence", "up", 6), ("fence", "look", 0)])

    def test_fields_are_accesses_and_takes_and_drops_are_none(self):
        steps = [("take", "p", None), ("write", ("val", "p"), (1,), None), ("drop", "p", None), ("read", "p", "top", None)]
        build = Build(2, {"top": 0}, [Operation("f", steps)], fields=("val",), links=("top", "p"), limit=1)
        self.assertEqual(places(build), [("section", "f"), ("fence", "f", 1), ("fence", "f", 3)])

    def test_long_operations(self):
        build = build_of(long_operation("f", 40), long_operation("g", 39), long_operation("h", 1))
        self.assertEqual(places(build), [("section", "g"), ("section", "h")] + [("fence", "g", at) for at in range(39)] + [
            ("fence", "h", 0)])
        every = mended(build, places(build))
        self.assertEqual([len(every[name].steps()) for name in every], [40, 80, 4])

    def test_a_lock_of_the_name_mend(self):
        own = Operation("f", [("lock", "mend"), ("write", "x", (1,), None), ("free", "mend")])
        other = Operation("g", [("fence", "mend", None), ("write", "x", (1,), ("mend", "=", (0,))), ("lock", "m"), ("free", "m")])
        self.assertEqual(places(build_of(own, other)), [("section", "g"), ("fence", "g", 1)])
        self.assertEqual(places(build_of(own)), [])


class MendedTest(unittest.TestCase):
    def setUp(self):
        steps = [("read", "a", "x", ("b", "=", (0,))), ("write", "y", ("a",), None), ("give", ("a",), None)]
        self.build = Build(4, {"x": 2, "y": 0, "top": 0}, [Operation("f", steps, turns=3, otherwise=5), GET],
                           fields=("val", "next"), links=("next", "top"), limit=2)
        self.full = ("fence", "full", None)

    def test_sections_and_fences_at_several_places(self):
        before = steps_of(self.build)
        steps = self.build["f"].steps()
        build = mended(self.build, [("fence", "f", 1), ("section", "f"), ("fence", "f", 0)])
        self.assertEqual(build["f"].steps(), [
            ("lock", "mend"), steps[0], self.full, steps[1], self.full, steps[2], ("free", "mend")])
        self.assertEqual(build["look"].steps(), GET.steps())
        self.assertEqual(steps_of(self.build), before)

    def test_what_stays(self):
        for chosen in ([], [("section", "f")], [("fence", "look", 0), ("section", "look")]):
            build = mended(self.build, chosen)
            self.assertIsNot(build, self.build)
            self.assertEqual((build.base, build.limit, build.names()), (4, 2, ["f", "look"]))
            self.assertEqual(list(build.cells().items()), list(self.build.cells().items()))
            self.assertEqual((build.fields(), build.links()), (["val", "next"], ["next", "top"]))
            self.assertEqual((build["f"].turns, build["f"].otherwise), (3, 5))
        self.assertEqual(steps_of(mended(self.build, [])), steps_of(self.build))

    def test_wrong_places(self):
        long = build_of(long_operation("f", 40), GET, Operation("g", [("lock", "mend"), ("read", "a", "x", None),
                                                                     ("free", "mend")]))
        wrong = [("section", "f"), ("fence", "f", 0), ("section", "g"), ("fence", "g", 1), ("section", "h"),
                 ("fence", "look", 1), ("fence", "look", 2), ("fence", "look", -1), ("fence", "look", False),
                 ("fence", "look", None), ("fence", "look", 0.0), ("fence", "look"), ("section", "look", 0), ("lock", "look"),
                 ["section", "look"], "look", None, 0, ("section", ["look"]), (), ("fence", "look", "0")]
        for place in wrong:
            with self.assertRaises(BadPlace, msg=repr(place)) as caught:
                mended(long, [("section", "look"), place, "odd"])
            self.assertIs(caught.exception.place, place)

    def test_places_that_stand_twice(self):
        twice = [("section", "f"), ("fence", "f", 0), ("section", "f"), None]
        with self.assertRaises(BadPlace) as caught:
            mended(self.build, twice)
        self.assertEqual(caught.exception.place, ("section", "f"))
        with self.assertRaises(BadPlace) as caught:
            mended(self.build, [("fence", "f", 2)] + twice)
        self.assertEqual(caught.exception.place, ("fence", "f", 2))


class FewestPlacesTest(unittest.TestCase):
    def tower(self, *operations, client=None, **more):
        build = build_of(*operations)
        return Tower(table_of(Ticket(3)), build, client or [once("up"), once("up")], **more)

    def test_a_section_around_a_count(self):
        tower = self.tower(COUNT, GET)
        among = places(tower.build)
        before = steps_of(tower.build), [moves_of(tower[name]) for name in tower]
        mend = fewest_places(tower, among, "at once")
        self.assertIsInstance(mend, Mend)
        self.assertEqual(mend.chosen, (("section", "up"),))
        self.assertEqual(mend.against, (((), "never"),))
        self.assertEqual((mend.tower.whole(), mend.tower.rungs()), ("at once", ["table", "joined", "opened"]))
        self.assertEqual(moves_of(mend.tower["opened"]),
                         moves_of(Tower(table_of(Ticket(3)), mended(tower.build, [("section", "up")]),
                                        [once("up"), once("up")])["opened"]))
        self.assertEqual((steps_of(tower.build), [moves_of(tower[name]) for name in tower]), before)

    def test_the_order_in_which_choices_are_tried(self):
        tower = self.tower(COUNT, GET, client=[always("up", "look")] * 2)
        among = [("fence", "up", 1), ("section", "look"), ("fence", "look", 0), ("fence", "up", 0)]
        self.assertIsNone(fewest_places(tower, among, "at once"))
        wider = among + [("section", "up")]
        mend = fewest_places(tower, wider, "at once")
        self.assertEqual(mend.chosen, (("section", "up"),))
        self.assertEqual(mend.against, (((), "never"),))
        build = build_of(COUNT, Operation("top", COUNT.steps()))
        table = Table({name: [(0, 1), (1, 2), (2, 0)] for name in ("up", "top")})
        tower = Tower(table, build, [once("up"), once("top")])
        among = [("fence", "top", 0), ("section", "top"), ("fence", "up", 1), ("section", "up")]
        ordered = [("section", "up"), ("section", "top"), ("fence", "up", 1), ("fence", "top", 0)]
        mend = fewest_places(tower, among, "at once")
        wanted = [()] + [(place,) for place in ordered]
        self.assertEqual([choice for choice, _ in mend.against], wanted)
        self.assertEqual(mend.chosen, tuple(ordered[:2]))
        self.assertEqual({word for _, word in mend.against}, {"never"})

    def test_all_choices_of_five_places(self):
        seen = []
        tower = self.tower(COUNT, GET)
        tower.rebuilt = lambda build: Refusing(seen, build)
        among = [("section", "look"), ("fence", "up", 1), ("fence", "up", 0), ("section", "up"), ("fence", "look", 0)]
        ordered = [("section", "up"), ("section", "look"), ("fence", "up", 0), ("fence", "up", 1), ("fence", "look", 0)]
        self.assertIsNone(fewest_places(tower, among, "afterwards"))
        choices = [list(row) for many in range(6) for row in itertools.combinations(ordered, many)]
        self.assertEqual(seen, [steps_of(mended(tower.build, choice)) for choice in choices])

    def test_nothing_needs_to_be_mended(self):
        safe = Operation("up", [("lock", "m")] + COUNT.steps()[:2] + [("free", "m"), ("give", ("a",), None)])
        mend = fewest_places(self.tower(safe), [], "at once")
        self.assertEqual((mend.chosen, mend.against, mend.tower.whole()), ((), (), "at once"))

    def test_no_choice_has_it(self):
        tower = Tower(Table({"up": [(5, 0)]}), build_of(COUNT), [once("up")])
        for wish in ("at once", "afterwards"):
            self.assertIsNone(fewest_places(tower, places(tower.build), wish))
            self.assertIsNone(fewest_places(tower, [], wish))

    def test_afterwards(self):
        f = Operation("f", [("read", "b", "y", None), ("swap", "a", "x", ("b",), None), ("give", ("a",), None)])
        g = Operation("g", [("read", "b", "x", None), ("swap", "b", "y", (1,), None), ("give", (0,), None)])
        build = Build(2, {"x": 0, "y": 0}, [f, g])
        tower = Tower(lone_table(build), build, [once("g"), once("f"), once("f")])
        among = [("section", "f"), ("section", "g")]
        mend = fewest_places(tower, among, "afterwards")
        self.assertEqual((mend.chosen, mend.against), ((), ()))
        mend = fewest_places(tower, among, "at once")
        self.assertEqual(mend.against[0], ((), "afterwards"))
        self.assertEqual(mend.tower.whole(), "at once")

    def test_fences_by_a_book(self):
        one, other = [Operation(name, [("write", cell, (1,), None), ("read", "a", end, None), ("give", ("a",), None)])
                      for name, cell, end in [("one", "x", "y"), ("other", "y", "x")]]
        build = Build(2, {"x": 0, "y": 0}, [one, other])
        table = Table({"one": [(0, 1), (0, 1), (1, 3), (1, 3)], "other": [(0, 2), (1, 3), (0, 2), (1, 3)]})
        client = [once("one"), once("other")]
        # Both may answer 1, which no order of the calls does; so sections are needed in order, and fences with them.
        tower = Tower(table, build, client, book=Book.buffered(), window=3)
        among = [("section", "one"), ("section", "other"), ("fence", "one", 0), ("fence", "other", 0)]
        mend = fewest_places(tower, among, "at once")
        self.assertEqual(mend.chosen, (("section", "one"), ("section", "other")))
        self.assertIsNone(fewest_places(tower, among[2:], "at once"))

    def test_other_things_stay_equal(self):
        take = Operation("up", [("take", "p", None), ("read", "a", "x", None), ("write", "x", ("a", 1), None),
                                ("drop", "p", None), ("give", ("a",), None)])
        build = Build(3, {"x": 0}, [take], fields=("val",), links=("p",), limit=1)
        recipe = Recipe(Book.buffered(), Book.loose())
        settings = {"pool": Pool("first", 2), "recipe": recipe, "window": 3, "chooser": Chooser.free(2)}
        tower = Tower(table_of(Ticket(3)), build, [once("up"), once("up")], **settings)
        recipe_then = Recipe(Book.buffered(), Book.loose())
        recipe["read"] = (("full",), "acquire", ("full",))
        mend = fewest_places(tower, [("section", "up")], "at once")
        settings["recipe"] = recipe_then
        wanted = Tower(table_of(Ticket(3)), mended(build, mend.chosen), [once("up"), once("up")], **settings)
        self.assertEqual(mend.tower.rungs(), wanted.rungs())
        for name in wanted:
            self.assertEqual(moves_of(mend.tower[name]), moves_of(wanted[name]))

    def test_refusals(self):
        tower = self.tower(COUNT, GET)
        many = [("section", "up")] * 6
        for wish in ("never", "", "once", None, 1, ["at once"]):
            with self.assertRaises(BadSetting) as caught:
                fewest_places(tower, many, wish)
            self.assertIs(caught.exception.setting, wish)
        with self.assertRaises(TooLarge) as caught:
            fewest_places(tower, many, "at once")
        self.assertEqual(caught.exception.bound, 5)
        for among, place in [(many[:5], many[0]), ([("section", "up"), ("fence", "up", 2), ("section", "up")], ("fence", "up", 2)),
                             ([None], None)]:
            with self.assertRaises(BadPlace) as caught:
                fewest_places(tower, among, "at once")
            self.assertEqual(caught.exception.place, place)

    def test_towers_that_are_too_large(self):
        client = [once("look", "look", "look", "look")] * 3
        tower = Tower(Table({"look": [(1, 0)]}), build_of(GET), client)
        self.assertEqual(len(tower["joined"]), 13 ** 3)
        with self.assertRaises(TooLarge) as caught:
            fewest_places(tower, [("section", "look")], "at once")
        self.assertEqual(caught.exception.bound, 4000)


class Refusing:
    """Stands in for a tower that is never mended, and keeps what was tried."""

    def __init__(self, seen, build):
        seen.append(steps_of(build))

    def whole(self):
        return "never"


class FactsTest(unittest.TestCase):
    """The facts of point 47."""

    def test_further_places_never_make_the_word_weaker(self):
        seen = set()
        for seed in range(120):
            source = random.Random(seed)
            build = random_object(seed)
            client = [once(source.choice(build.names())), once(source.choice(build.names()))]
            settings = [{}, {"book": random_book(source)}, {"recipe": random_recipe(source, random_book(source))}][seed % 3]
            every = places(build)
            few = source.sample(every, min(len(every), source.randrange(3)))
            more = few + [place for place in every if place not in few and source.random() < 0.4]
            try:
                words = [Tower(lone_table(build), mended(build, chosen), client, **settings).whole()
                         for chosen in ([], few, more)]
            except TooLarge:
                continue
            self.assertEqual(words, sorted(words, key=ORDER.index, reverse=True))
            seen.add((words[0], words[2]))
        self.assertGreaterEqual(seen, {("at once", "at once"), ("never", "never"), ("never", "at once")})

    def test_sections_everywhere(self):
        seen = set()
        for seed in range(90):
            source = random.Random(seed)
            build = random_object(seed)
            table = lone_table(build)
            if seed % 3 == 0:
                # A table that differs somewhere.
                rows = {name: [table(name, state) for state in range(table.size)] for name in table.names()}
                name, state = source.choice(table.names()), source.randrange(table.size)
                rows[name][state] = ((rows[name][state][0] + 1) % 10, rows[name][state][1])
                table = Table(rows)
            every = [place for place in places(build) if place[0] == "section" or source.random() < 0.3]
            settings = [{}, {"book": random_book(source)}, {"recipe": random_recipe(source, random_book(source))}][seed % 3]
            client = [always(*build.names())] * source.choice([1, 2])
            try:
                word = Tower(table, mended(build, every), client, **settings).whole()
            except TooLarge:
                continue
            like = alike(lone_table(build), table)
            seen.add(like)
            self.assertEqual(word, "at once" if like else "never")
        self.assertEqual(seen, {True, False})


if __name__ == "__main__":
    unittest.main()
