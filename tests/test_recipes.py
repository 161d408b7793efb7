import itertools
import random
import unittest

from coretower.books import KINDS, PAIRS, READS, WRITES, Book, Pairs
from coretower.clients import once
from coretower.errors import BadNumber, BadRow, NoRow, OtherBook, TooLarge
from coretower.papers import lockstep
from coretower.recipes import Recipe, added, additions, fewest, lost
from coretower.spaces import Space
from tests.made import random_book, random_build, random_recipe, random_settings

SOFT = Book(Pairs(), fences={"soft": Pairs([("write", "read")])})
BOTH = Book(Pairs([("read", "read")]), fences={"soft": Pairs([("write", "read")]), "a": Pairs()})
NO_NAMES = ["nope", "", "Read", None, 3, ("read",), ["read"]]


def rows_of(recipe):
    return {name: recipe[name] for name in recipe}


def plain_rows(source, target):
    """The rows of a new recipe, as point 2 of the interface tells them."""
    rows = {kind: ((), kind, ()) for kind in KINDS}
    rows["return"] = ()
    for fence in source.fences():
        rows[fence] = (fence,) if fence in target.fences() else ("full",)
    return {name: rows[name] for name in sorted(rows)}


def plain_pairs(recipe):
    """The pairs of a recipe (point 30)."""
    source = recipe.source
    found = [(first, None, second) for first, second in PAIRS if (first, second) in source.kept]
    for fence in source.fences():
        found += [(first, fence, second) for first, second in PAIRS
                  if (first, second) in source.fence(fence) and (first, second) not in source.kept]
    return found


def plain_lost(recipe):
    found = []
    for first, fence, second in plain_pairs(recipe):
        between = list(recipe[first][2])
        between += recipe[fence] if fence is not None else ()
        between += recipe["return"] if second == "return" else recipe[second][0]
        pair = (recipe[first][1], second if second == "return" else recipe[second][1])
        target = recipe.target
        if pair not in target.kept and not any(pair in target.fence(name) for name in between):
            found.append((first, fence, second))
    order = {pair: at for at, pair in enumerate(PAIRS)}
    return sorted(found, key=lambda pair: (KINDS.index(pair[0]), pair[1] or "", order[pair[0], pair[2]]))


def sample_recipe(seed):
    source = random.Random(seed)
    fences = source.choice([(), ("soft",), ("a", "soft")])
    return random_recipe(source, random_book(source, fences), source.choice([(), ("soft",), ("b", "soft")]), chance=0.25)


class RowsTest(unittest.TestCase):
    def bad(self, error, name, change):
        with self.assertRaises(error) as caught:
            change()
        self.assertEqual(list(vars(caught.exception).values()), [name])

    def test_rows_at_first(self):
        for source, target in [(SOFT, BOTH), (BOTH, SOFT), (Book.strict(), Book.loose()), (BOTH, Book.loose())]:
            recipe = Recipe(source, target)
            self.assertEqual(rows_of(recipe), plain_rows(source, target))
            self.assertIs(recipe.source, source)
            self.assertIs(recipe.target, target)
        self.assertEqual(list(Recipe(BOTH, SOFT)), [
            "a", "acquire", "both", "full", "read", "release", "return", "soft", "write"])
        self.assertEqual(Recipe(BOTH, SOFT)["a"], ("full",))

    def test_unknown_names(self):
        recipe = Recipe(SOFT, BOTH)
        for name in NO_NAMES + ["a"]:
            with self.assertRaises(NoRow) as caught:
                recipe[name]
            self.assertIs(caught.exception.name, name)
            with self.assertRaises(NoRow) as caught:
                recipe[name] = "odd"
            self.assertIs(caught.exception.name, name)
        self.assertEqual(rows_of(recipe), plain_rows(SOFT, BOTH))

    def test_rows_are_set(self):
        recipe = Recipe(SOFT, BOTH)
        recipe["read"] = (("soft", "a", "soft"), "acquire", ("full", "full"))
        recipe["return"] = ("soft", "full", "a", "a")
        recipe["soft"] = ()
        recipe["both"] = ((), "both", ("a",))
        recipe["release"] = ((), "write", ())
        rows = plain_rows(SOFT, BOTH)
        rows.update({"read": (("a", "soft"), "acquire", ("full",)), "return": ("a", "full", "soft"), "soft": (),
                     "both": ((), "both", ("a",)), "release": ((), "write", ())})
        self.assertEqual(rows_of(recipe), rows)

    def test_wrong_rows(self):
        recipe = Recipe(BOTH, SOFT)
        wrong = [((), "write", ()), ((), "both", ()), ((), "return", ()), (("a",), "read", ()), ((), "read", ("a",)), (), None,
                 ((), "read"), ((), "read", (), ()), [(), "read", ()], ([], "read", ()), ((), "read", []), ((), None, ()),
                 ((), ["read"], ()), "read", ((("full",),), "read", ()), ("", "read", ""), (("full", "x"), "read", ())]
        for row in wrong:
            with self.subTest(row=row):
                with self.assertRaises(BadRow) as caught:
                    recipe["read"] = row
                self.assertEqual(caught.exception.name, "read")
        for name in ("return", "soft", "a", "full"):
            for row in [("a",), ("full", "read"), ["full"], "full", None, ((), "read", ()), (("full",),), (None,), ("return",)]:
                with self.assertRaises(BadRow) as caught:
                    recipe[name] = row
                self.assertEqual(caught.exception.name, name)
        for name, kind in [("write", "read"), ("both", "write"), ("acquire", "release"), ("release", "both")]:
            with self.assertRaises(BadRow):
                recipe[name] = ((), kind, ())
        self.assertEqual(rows_of(recipe), plain_rows(BOTH, SOFT))

    def test_rows_of_three_fences_are_no_rows_of_kinds(self):
        recipe = Recipe(BOTH, BOTH)
        recipe["soft"] = ("soft", "full", "a")
        self.assertEqual(recipe["soft"], ("a", "full", "soft"))
        more = Recipe(BOTH, BOTH)
        more["soft"] = ("a",)
        more |= recipe
        self.assertEqual(more["soft"], ("a", "full", "soft"))

    def test_more_fences(self):
        recipe, more = Recipe(SOFT, BOTH), Recipe(BOTH, SOFT)
        recipe["read"] = (("a",), "acquire", ())
        recipe["return"] = ("full",)
        more["read"] = (("soft",), "acquire", ("full",))
        more["write"] = ((), "write", ("soft",))
        more["return"] = ("soft",)
        more["soft"] = ("full",)
        same = recipe
        recipe |= more
        self.assertIs(recipe, same)
        rows = plain_rows(SOFT, BOTH)
        rows.update({"read": (("a", "soft"), "acquire", ("full",)), "write": ((), "write", ("soft",)),
                     "return": ("full", "soft"), "soft": ("full", "soft")})
        self.assertEqual(rows_of(recipe), rows)
        self.assertEqual(more["read"], (("soft",), "acquire", ("full",)))
        recipe |= recipe
        self.assertEqual(rows_of(recipe), rows)

    def test_more_fences_are_refused(self):
        recipe = Recipe(BOTH, SOFT)
        rows = rows_of(recipe)
        for more, error, name in [(Recipe(SOFT, SOFT), NoRow, "a"), (Recipe(Book.strict(), SOFT), NoRow, "a")]:
            more["write"] = ((), "release", ("full",))
            with self.assertRaises(error) as caught:
                recipe |= more
            self.assertEqual(caught.exception.name, name)
        more = Recipe(BOTH, BOTH)
        more["a"] = ("full", "soft")
        more["acquire"] = (("soft",), "acquire", ())
        for name, row in [("write", ((), "release", ("full",))), ("return", ("a",)), ("read", (("a",), "read", ())),
                          ("both", ((), "both", ("a", "full"))), ("a", ("a",))]:
            more[name] = row
            with self.assertRaises(BadRow) as caught:
                recipe |= more
            self.assertEqual(caught.exception.name, name)
        self.assertEqual(rows_of(recipe), rows)


class ThenTest(unittest.TestCase):
    def test_rows(self):
        middle = Book(Pairs(), fences={"a": Pairs(), "soft": Pairs([("write", "read")])})
        again = Book(Pairs(), fences={"soft": Pairs([("write", "read")]), "a": Pairs()})
        last = Book(Pairs(), fences={"x": Pairs(), "y": Pairs()})
        first, second = Recipe(SOFT, middle), Recipe(again, last)
        first["read"] = (("a",), "acquire", ("soft",))
        first["write"] = (("a", "soft"), "write", ())
        first["return"] = ("a",)
        first["soft"] = ("a", "soft")
        second["a"] = ("x",)
        second["soft"] = ("y",)
        second["acquire"] = (("y",), "read", ("x", "full"))
        second["write"] = ((), "release", ("full",))
        second["return"] = ("full",)
        joint = first.then(second)
        self.assertIs(joint.source, SOFT)
        self.assertIs(joint.target, last)
        self.assertEqual(rows_of(joint), {
            "acquire": (("y",), "read", ("full", "x")), "both": ((), "both", ()), "full": ("full",),
            "read": (("x", "y"), "read", ("full", "x", "y")), "release": ((), "release", ()), "return": ("full", "x"),
            "soft": ("x", "y"), "write": (("x", "y"), "release", ("full",))})
        self.assertEqual(first["read"], (("a",), "acquire", ("soft",)))

    def test_other_books(self):
        kept = Pairs([("read", "read")])
        wanted = Book(kept, fences={"soft": Pairs([("write", "read")])})
        for source in [Book(Pairs(), fences={"soft": Pairs([("write", "read")])}), Book(kept),
                       Book(kept, fences={"soft": Pairs([("write", "write")])}),
                       Book(kept, fences={"hard": Pairs([("write", "read")])}),
                       Book(kept, fences={"soft": Pairs([("write", "read")]), "a": Pairs()})]:
            with self.assertRaises(OtherBook):
                Recipe(SOFT, wanted).then(Recipe(source, SOFT))
            with self.assertRaises(OtherBook):
                Recipe(SOFT, source).then(Recipe(wanted, SOFT))
        Recipe(SOFT, wanted).then(Recipe(Book(kept, fences={"soft": Pairs([("write", "read")])}), SOFT))

    def test_two_that_lose_nothing_lose_nothing_together(self):
        told = 0
        for seed in range(60):
            source = random.Random(seed)
            books = [random_book(source, ("soft",)) for _ in range(3)]
            recipes = [Recipe(books[0], books[1]), Recipe(books[1], books[2])]
            for recipe in recipes:
                for name in recipe:
                    if source.random() < 0.9:
                        row = recipe[name]
                        recipe[name] = row + ("full",) if name not in KINDS else (row[0], row[1], ("full",))
            joint = recipes[0].then(recipes[1])
            if not lost(recipes[0]) and not lost(recipes[1]):
                told += 1
                self.assertEqual(lost(joint), [])
        self.assertGreater(told, 10)


class LostTest(unittest.TestCase):
    def test_lost_pairs(self):
        recipe = Recipe(Book.strict(), Book.buffered())
        self.assertEqual(lost(recipe), [(first, None, second) for first in WRITES for second in READS + ("return",)])
        recipe["write"] = ((), "write", ("full",))
        self.assertEqual(lost(recipe), [("release", None, second) for second in READS + ("return",)])
        recipe["return"] = ("full",)
        recipe["acquire"] = (("full",), "acquire", ())
        self.assertEqual(lost(recipe), [("release", None, "read")])
        self.assertEqual(lost(Recipe(Book.loose(), Book.loose())), [])

    def test_lost_pairs_with_fences(self):
        recipe = Recipe(BOTH, Book.loose())
        self.assertEqual(lost(recipe), [("read", None, "read")])
        recipe["soft"] = ()
        recipe["full"] = ()
        self.assertEqual(lost(recipe), plain_lost(recipe))
        self.assertEqual(lost(recipe)[:4], [
            ("read", None, "read"), ("read", "full", "acquire"), ("read", "full", "write"), ("read", "full", "both")])
        self.assertIn(("write", "soft", "read"), lost(recipe))
        self.assertNotIn(("write", "a", "read"), lost(recipe))

    def test_lost_pairs_are_those_of_the_document(self):
        for seed in range(60):
            recipe = sample_recipe(seed)
            self.assertEqual(lost(recipe), plain_lost(recipe))

    def test_a_recipe_that_loses_nothing_makes_runs_of_its_source(self):
        told = 0
        for seed in range(40):
            source = random.Random(seed)
            fences = ("soft",) if seed % 2 else ()
            recipe = random_recipe(source, random_book(source, fences), fences)
            recipe = added(recipe, [addition for addition in additions(recipe) if addition[2] == "full"
                                    and addition[1] in ("behind", "row")])
            self.assertEqual(lost(recipe), [])
            build = random_build(seed, fences=("full",) + fences)
            client, _ = random_settings(seed, build)
            try:
                low = Space(build, client, recipe=recipe, window=2 + seed % 2)
                high = Space(build, client, book=recipe.source, window=2 + seed % 2)
            except TooLarge:
                continue
            told += 1
            self.assertIsNotNone(lockstep(low.web, high.web))
        self.assertGreater(told, 25)


class AdditionsTest(unittest.TestCase):
    def all_additions(self, recipe):
        return [(name, side, fence) for name in recipe for side in (("ahead", "behind") if name in KINDS else ("row",))
                for fence in recipe.target.fences()]

    def is_there(self, recipe, addition):
        name, side, fence = addition
        return fence in {"ahead": recipe[name][:1], "behind": recipe[name][2:], "row": (recipe[name],)}[side][0]

    def test_new_additions(self):
        for recipe in [Recipe(SOFT, BOTH), Recipe(BOTH, SOFT)] + [sample_recipe(seed) for seed in range(10)]:
            news = additions(recipe)
            self.assertEqual(news, [one for one in self.all_additions(recipe) if not self.is_there(recipe, one)])
            self.assertEqual(news, sorted(news))
        self.assertEqual(len(additions(Recipe(SOFT, BOTH))), 37)
        self.assertNotIn(("soft", "row", "soft"), additions(Recipe(SOFT, BOTH)))

    def test_added(self):
        recipe = Recipe(SOFT, BOTH)
        recipe["read"] = (("a",), "acquire", ())
        rows = rows_of(recipe)
        more = added(recipe, [("return", "row", "soft"), ("read", "ahead", "full"), ("read", "behind", "a"),
                              ("soft", "row", "a"), ("read", "ahead", "a"), ("return", "row", "a")])
        self.assertEqual(rows_of(recipe), rows)
        rows.update({"return": ("a", "soft"), "read": (("a", "full"), "acquire", ("a",)), "soft": ("a", "soft")})
        self.assertEqual(rows_of(more), rows)
        self.assertIs(more.source, SOFT)
        self.assertIs(more.target, BOTH)
        self.assertEqual(rows_of(added(recipe, [])), rows_of(recipe))
        self.assertIsNot(added(recipe, []), recipe)

    def test_what_is_no_addition(self):
        recipe = Recipe(SOFT, BOTH)
        good = ("read", "ahead", "a")
        for wrong in [("nope", "row", "a"), ("read", "row", "a"), ("return", "ahead", "a"), ("soft", "behind", "a"),
                      ("write", "behind", "b"), ("a", "row", "a"), ("both", "", "a"), ("full", "row", None), ("read", "ahead"),
                      ("acquire", "ahead", "a", "a")]:
            with self.assertRaises(BadRow) as caught:
                added(recipe, [good, wrong, ("x", "row", "a")])
            self.assertEqual(caught.exception.name, wrong[0])

    def test_fewest(self):
        recipe = Recipe(Book.strict(), Book.buffered())
        for most in (0, 1, 2):
            self.assertEqual(fewest(recipe, most), [[], [], self.plain_fewest(recipe, 2)][most])
        self.assertEqual(fewest(recipe, 2), [(("release", "behind", "full"), ("write", "behind", "full"))])
        recipe["write"] = ((), "write", ("full",))
        for most, wanted in [(0, []), (1, [(("release", "behind", "full"),)]), (2, [(("release", "behind", "full"),)])]:
            self.assertEqual(fewest(recipe, most), wanted)
        for most in (0, 1, 2):
            self.assertEqual(fewest(Recipe(SOFT, SOFT), most), [()])
        self.assertEqual(fewest(Recipe(Book.strict(), Book(Pairs())), 2), [])

    def plain_fewest(self, recipe, most):
        for many in range(most + 1):
            found = [chosen for chosen in itertools.combinations(additions(recipe), many) if not lost(added(recipe, chosen))]
            if found:
                return found
        return []

    def test_fewest_is_that_of_the_document(self):
        told = []
        for seed in range(40):
            source = random.Random(seed)
            kept = [pair for pair in PAIRS if source.random() < 0.7]
            wanted = [pair for pair in PAIRS if pair in kept or source.random() < 0.15]
            target = Book(Pairs(kept), fences={"soft": Pairs([pair for pair in PAIRS if source.random() < 0.5])})
            recipe = Recipe(Book(Pairs(wanted), fences={"soft": Pairs()}), target)
            recipe["soft"] = ()
            for most in (1, 2) if seed < 8 else (1,):
                self.assertEqual(fewest(recipe, most), self.plain_fewest(recipe, most))
            told.append(len((fewest(recipe, 2) or [(0,) * 3])[0]))
        self.assertEqual(set(told), {0, 1, 2, 3})

    def test_fewest_with_additions_beside_each_other(self):
        recipe = Recipe(Book(Pairs([("acquire", "read"), ("write", "acquire")])), Book(Pairs()))
        found = fewest(recipe, 2)
        self.assertIn((("acquire", "ahead", "full"), ("acquire", "behind", "full")), found)
        self.assertEqual(found, self.plain_fewest(recipe, 2))

    def test_wrong_numbers(self):
        for most in (-1, 3, True, None, "1", (1,)):
            for recipe in (Recipe(SOFT, SOFT), Recipe(Book.strict(), SOFT)):
                with self.assertRaises(BadNumber) as caught:
                    fewest(recipe, most)
                self.assertIs(caught.exception.number, most)


class SpaceByRecipeTest(unittest.TestCase):
    def test_a_space_takes_the_recipe_as_it_is_then(self):
        recipe = Recipe(Book.strict(), Book.buffered())
        build = random_build(3, linked=False)
        client = [once(build.names()[0])]
        space = Space(build, client, recipe=recipe)
        moves = [space.web.moves(at) for at in range(len(space.web))]
        recipe["write"] = ((), "release", ("full",))
        self.assertEqual([space.web.moves(at) for at in range(len(space.web))], moves)


if __name__ == "__main__":
    unittest.main()
