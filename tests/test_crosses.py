import random
import unittest

from coretower.books import KINDS, PAIRS, Book, Pairs
from coretower.crosses import Cross, cross
from coretower.errors import BadPair
from coretower.recipes import Recipe, lost
from coretower.spaces import Space
from tests.made import random_book, random_recipe


class CrossTest(unittest.TestCase):
    def check(self, recipe, pair):
        found = cross(recipe, pair)
        self.assertIsInstance(found, Cross)
        self.assertEqual(len(found.build.names()), 2)
        self.assertEqual(len(found.client), 2)
        names = []
        for menus, again in found.client:
            self.assertIs(again, False)
            self.assertEqual([len(menu) for menu in menus], [1])
            names.append(menus[0][0])
        self.assertEqual(sorted(names), sorted(found.build.names()))
        for caller in (0, 1):
            self.assertEqual([deed[1] for deed in found.history if deed[0] == caller], ["call", "return"])
        for window in (2, 3):
            self.assertIn(found.history, Space(found.build, found.client, recipe=recipe, window=window).web)
            self.assertNotIn(found.history, Space(found.build, found.client, book=recipe.source, window=window).web)

    def test_every_pair(self):
        weak = Book(Pairs())
        for pair in PAIRS:
            with self.subTest(pair=pair):
                self.check(Recipe(Book(Pairs([pair])), weak), (pair[0], None, pair[1]))
                fenced = Recipe(Book(Pairs(), fences={"soft": Pairs([pair])}), weak)
                fenced["soft"] = ()
                self.check(fenced, (pair[0], "soft", pair[1]))

    def test_books_that_keep_all_other_pairs(self):
        for pair in PAIRS:
            rest = Book(Pairs(PAIRS) - Pairs([pair]))
            recipe = Recipe(Book.strict(), rest)
            self.assertEqual(lost(recipe), [(pair[0], None, pair[1])])
            self.check(recipe, (pair[0], None, pair[1]))

    def test_many_recipes(self):
        told = 0
        for seed in range(60):
            source = random.Random(seed)
            fences = source.choice([(), ("soft",), ("a", "soft")])
            recipe = random_recipe(source, random_book(source, fences), source.choice([(), ("b", "soft")]), chance=0.15)
            pairs = lost(recipe)
            for pair in source.sample(pairs, min(4, len(pairs))):
                with self.subTest(seed=seed, pair=pair):
                    self.check(recipe, pair)
                    told += 1
        self.assertGreater(told, 100)

    def test_no_lost_pair(self):
        recipe = Recipe(Book.strict(), Book.buffered())
        for pair in [("read", None, "read"), ("write", "full", "read"), ("write", None), ("write", "read"), None, "write", [],
                     ["write", None, "read"], ("return", None, "write"), ("write", "soft", "read"), (KINDS, None, [])]:
            with self.assertRaises(BadPair) as caught:
                cross(recipe, pair)
            self.assertIs(caught.exception.pair, pair)
        self.check(recipe, ("write", None, "read"))


if __name__ == "__main__":
    unittest.main()
