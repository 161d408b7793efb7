import unittest

from coretower.books import KINDS, PAIRS, READS, WRITES, Book, Pairs
from coretower.errors import BadFence, BadPair, NoFence, TooLarge

ORDERED = [(first, second) for first in KINDS for second in KINDS + ("return",)
           if second != "return" or first in WRITES]
NO_PAIRS = [("read", "return"), ("both", "return"), ("return", "read"), ("return", "return"), ("read",), ["read", "read"],
            ("read", "read", "read"), ("Read", "read"), "read", None, 0, (), ("write", None), ("write", ["return"]), {}]


class KindsTest(unittest.TestCase):
    def test_kinds_and_pairs(self):
        self.assertEqual(READS, ("read", "acquire"))
        self.assertEqual(WRITES, ("write", "release"))
        self.assertEqual(KINDS, ("read", "acquire", "write", "release", "both"))
        self.assertEqual(PAIRS, tuple(ORDERED))
        self.assertEqual(len(PAIRS), 27)


class PairsTest(unittest.TestCase):
    def test_pairs_stand_in_order_and_once(self):
        pairs = Pairs([("write", "return"), ("both", "both"), ("read", "both"), ("write", "return"), ("write", "both")])
        self.assertEqual(list(pairs), [("read", "both"), ("write", "both"), ("write", "return"), ("both", "both")])
        self.assertEqual(len(pairs), 4)
        self.assertEqual(list(Pairs()), [])
        self.assertEqual(len(Pairs(())), 0)
        self.assertEqual(list(Pairs(PAIRS[::-1])), ORDERED)

    def test_what_is_in_it(self):
        pairs = Pairs((("read", "both"), ("write", "return")))
        for pair in ORDERED:
            self.assertEqual(pair in pairs, pair in [("read", "both"), ("write", "return")])
        for item in NO_PAIRS:
            self.assertNotIn(item, pairs)

    def test_what_is_no_pair(self):
        for item in NO_PAIRS:
            with self.subTest(item=item), self.assertRaises(BadPair) as caught:
                Pairs([("read", "read"), item, ("x", "y")])
            self.assertIs(caught.exception.pair, item)

    def test_its_list_is_copied(self):
        given = [("read", "read")]
        pairs = Pairs(given)
        given.append(("both", "both"))
        self.assertEqual(len(pairs), 1)

    def test_operators(self):
        a, b = Pairs([("read", "read"), ("write", "read"), ("both", "both")]), Pairs([("write", "read"), ("read", "both")])
        self.assertEqual(list(a & b), [("write", "read")])
        self.assertEqual(list(a | b), [("read", "read"), ("read", "both"), ("write", "read"), ("both", "both")])
        self.assertEqual(list(a - b), [("read", "read"), ("both", "both")])
        self.assertEqual(list(b - a), [("read", "both")])
        self.assertEqual([len(a), len(b)], [3, 2])
        self.assertIsInstance(a | b, Pairs)

    def test_within(self):
        a, b = Pairs([("read", "read")]), Pairs([("read", "read"), ("both", "both")])
        self.assertEqual([a.within(b), b.within(a), a.within(a), Pairs().within(a), a.within(Pairs())],
                         [True, False, True, True, False])

    def test_between(self):
        self.assertEqual(list(Pairs.between(("write", "read"), ("return", "acquire"))),
                         [("read", "acquire"), ("write", "acquire"), ("write", "return")])
        self.assertEqual(list(Pairs.between(KINDS, KINDS + ("return",))), ORDERED)
        self.assertEqual(list(Pairs.between((), KINDS)), [])
        self.assertEqual(list(Pairs.between(READS, ("return",))), [])


class BookTest(unittest.TestCase):
    def setUp(self):
        self.soft = Pairs([("read", "read"), ("write", "return")])
        self.book = Book(Pairs([("both", "both")]), fences={"soft": self.soft, "a": Pairs()})

    def test_fences(self):
        self.assertEqual(self.book.fences(), ["a", "full", "soft"])
        self.assertEqual(Book(Pairs()).fences(), ["full"])
        self.assertEqual(Book(Pairs(), fences={}).fences(), ["full"])
        self.assertIs(self.book.fence("soft"), self.soft)
        self.assertEqual(list(self.book.fence("full")), ORDERED)
        self.assertEqual(list(self.book.kept), [("both", "both")])
        for name in ("b", "", "Full", None, ["full"], 0):
            with self.assertRaises(NoFence) as caught:
                self.book.fence(name)
            self.assertIs(caught.exception.name, name)

    def test_its_dict_is_copied(self):
        given = {"soft": Pairs()}
        book = Book(Pairs(), fences=given)
        given["more"] = Pairs()
        book.fences().append("more")
        self.assertEqual(book.fences(), ["full", "soft"])

    def test_what_is_refused(self):
        with self.assertRaises(TooLarge) as caught:
            Book(Pairs(), fences={"full": Pairs(), "b": Pairs(), "c": Pairs()})
        self.assertEqual(caught.exception.bound, 2)
        cases = [({"full": Pairs()}, "full"), ({"read": Pairs()}, "read"), ({"both": Pairs(), "acquire": Pairs()}, "acquire"),
                 ({"return": Pairs()}, "return"), ({"x": Pairs(), "Soft": Pairs()}, "Soft"), ({"": Pairs()}, ""),
                 ({"write": Pairs(), "full": Pairs()}, "full"), ({"abcdefghi": Pairs()}, "abcdefghi")]
        for fences, name in cases:
            with self.subTest(name=name), self.assertRaises(BadFence) as caught:
                Book(Pairs(), fences=fences)
            self.assertEqual(caught.exception.name, name)
        self.assertEqual(Book(Pairs(), fences={"fence": Pairs(), "abcdefgh": Pairs()}).fences(),
                         ["abcdefgh", "fence", "full"])

    def test_keeps(self):
        for first, second in ORDERED:
            pair = (first, second)
            self.assertIs(self.book.keeps(first, second), pair == ("both", "both"))
            self.assertIs(self.book.keeps(first, second, between=("a",)), pair == ("both", "both"))
            self.assertIs(self.book.keeps(first, second, between=("a", "soft")),
                          pair in [("both", "both"), ("read", "read"), ("write", "return")])
            self.assertTrue(self.book.keeps(first, second, between=("full", "a")))

    def test_what_keeps_refuses(self):
        for first, second in [("read", "return"), ("return", "read"), ("x", "read"), ("read", None), ([], {})]:
            with self.assertRaises(BadPair) as caught:
                self.book.keeps(first, second, between=("nope",))
            self.assertEqual(caught.exception.pair, (first, second))
        with self.assertRaises(NoFence) as caught:
            self.book.keeps("both", "both", between=("full", "x", "b"))
        self.assertEqual(caught.exception.name, "x")

    def test_the_usual_books(self):
        self.assertEqual(list(Book.strict().kept), ORDERED)
        self.assertEqual(list(Book.buffered().kept), [pair for pair in ORDERED if pair not in [
            ("write", "read"), ("write", "acquire"), ("release", "read"), ("release", "acquire"),
            ("write", "return"), ("release", "return")]])
        self.assertEqual(list(Book.loose().kept), [pair for pair in ORDERED if pair in [
            ("acquire", "read"), ("acquire", "acquire"), ("acquire", "write"), ("acquire", "release"),
            ("acquire", "both"), ("read", "release"), ("write", "release"), ("release", "release"),
            ("both", "release")]])
        for book in (Book.strict(), Book.buffered(), Book.loose()):
            self.assertEqual(book.fences(), ["full"])


if __name__ == "__main__":
    unittest.main()
