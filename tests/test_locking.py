import itertools
import random
import unittest

from coretower.errors import BadEntry, BadName, OtherLocks, TooLarge
from coretower.locking import Rule, reachable, within

ABC = ("b", "a", "c")
EVERY = [((), "b"), ((), "a"), ((), "c"), (("b",), "a"), (("b",), "c"), (("a",), "b"), (("a",), "c"), (("c",), "b"),
         (("c",), "a"), (("b", "a"), "c"), (("b", "c"), "a"), (("a", "c"), "b")]
HELDS = [(), ("b",), ("a",), ("c",), ("b", "a"), ("b", "c"), ("a", "c"), ("b", "a", "c")]
NO_ENTRIES = [((), "x"), (("a", "b"), "c"), (("b",), "b"), (("b", "b"), "a"), (("x",), "a"), (["b"], "a"), ("b", "a"), ((),),
              ((), "a", "c"), [(), "a"], None, "a", (), (("b", "a", "c"), "x"), ((), ["a"]), ((), None), {}, 0]


def random_rule(seed, locks=ABC):
    source = random.Random(seed)
    chance = source.choice([0.3, 0.5, 0.7])
    return Rule(locks, [entry for entry in Rule.every(locks) if not entry[0] and source.random() < 0.8
                        or source.random() < chance])


def plain_keeps(entries, locks, steps):
    """Point 33, for a list of right steps."""
    held = set()
    for word, name in steps:
        if word == "lock":
            if name in held or (tuple(lock for lock in locks if lock in held), name) not in entries:
                return False
            held.add(name)
        else:
            if name not in held:
                return False
            held.remove(name)
    return not held


def plain_reachable(rule):
    locks = rule.locks()
    found = {frozenset()}
    while True:
        more = {held | {name} for held in found for name in locks
                if (tuple(lock for lock in locks if lock in held), name) in list(rule)}
        more |= {held - {name} for held in found for name in held}
        if more <= found:
            return found
        found |= more


class RuleTest(unittest.TestCase):
    def test_locks(self):
        self.assertEqual(Rule(ABC).locks(), ["b", "a", "c"])
        self.assertEqual(Rule(("abcdefgh",)).locks(), ["abcdefgh"])
        rule = Rule(ABC)
        rule.locks().append("d")
        self.assertEqual(rule.locks(), ["b", "a", "c"])

    def test_wrong_locks(self):
        for locks in [(), ("a", "b", "c", "d"), ("A", "b", "b", "c")]:
            with self.assertRaises(TooLarge) as caught:
                Rule(locks, [None])
            self.assertEqual(caught.exception.bound, 3)
        for locks, name in [(("a", "A", ""), "A"), (("a", "b", "a"), "a"), (("b", "b", "A"), "b"), ((1,), 1), ((None, "a"), None),
                            (("a", ["a"]), ["a"]), (("abcdefghi",), "abcdefghi")]:
            for make in (lambda some: Rule(some, [None]), Rule.every, Rule.rising, Rule.gate):
                with self.assertRaises(BadName) as caught:
                    make(locks)
                self.assertEqual(caught.exception.name, name)
        for make in (Rule.every, Rule.rising, Rule.gate):
            for locks in [(), ("a", "b", "c", "d")]:
                with self.assertRaises(TooLarge):
                    make(locks)

    def test_entries_stand_in_order_and_once(self):
        for entries in (EVERY[::-1], EVERY + EVERY, tuple(EVERY[5:] + EVERY[:5])):
            rule = Rule(ABC, entries)
            self.assertEqual(list(rule), EVERY)
            self.assertEqual(len(rule), 12)
        self.assertEqual(list(Rule(ABC)), [])
        self.assertEqual(len(Rule(ABC)), 0)
        given = [((), "a")]
        rule = Rule(ABC, given)
        given.append(((), "b"))
        self.assertEqual(list(rule), [((), "a")])

    def test_what_is_in_it(self):
        rule = Rule(ABC, EVERY[2:9])
        self.assertEqual([entry in rule for entry in EVERY], [False] * 2 + [True] * 7 + [False] * 3)
        for entry in NO_ENTRIES:
            self.assertNotIn(entry, rule)

    def test_wrong_entries(self):
        for entry in NO_ENTRIES:
            with self.subTest(entry=entry), self.assertRaises(BadEntry) as caught:
                Rule(ABC, [((), "a"), entry, ((), "y")])
            self.assertIs(caught.exception.entry, entry)

    def test_items(self):
        rule = Rule(ABC, [((), "c"), ((), "b"), (("b",), "c"), (("a", "c"), "b")])
        self.assertEqual([rule[held] for held in HELDS], [["b", "c"], ["c"], [], [], [], [], ["b"], []])
        for held in [("a", "b"), ("b", "b"), ("x",), ["b"], "b", None, (None,), (["b"],), 0, ("b", "a", "c", "x"), {}]:
            with self.assertRaises(BadEntry) as caught:
                rule[held]
            self.assertIs(caught.exception.entry, held)

    def test_operators(self):
        a, b = Rule(ABC, EVERY[:7]), Rule(ABC, EVERY[4:])
        self.assertEqual([list(a & b), list(a | b), list(a - b), list(b - a)], [EVERY[4:7], EVERY, EVERY[:4], EVERY[7:]])
        self.assertEqual((a | b).locks(), ["b", "a", "c"])
        self.assertEqual([list(a), list(b)], [EVERY[:7], EVERY[4:]])
        for other in [Rule(("a", "b", "c")), Rule(("b", "a"))]:
            for join in (lambda: a & other, lambda: a | other, lambda: a - other, lambda: within(a, other)):
                with self.assertRaises(OtherLocks):
                    join()

    def test_usual_rules(self):
        self.assertEqual(list(Rule.every(ABC)), EVERY)
        self.assertEqual(list(Rule.rising(ABC)), [EVERY[at] for at in (0, 1, 2, 3, 4, 6, 9)])
        self.assertEqual(list(Rule.gate(ABC)), [EVERY[at] for at in (0, 1, 2, 3, 4, 9, 10)])
        self.assertEqual(list(Rule.every(("x",))), [((), "x")])
        self.assertEqual(list(Rule.rising(("x", "y"))), [((), "x"), ((), "y"), (("x",), "y")])
        self.assertEqual(list(Rule.gate(("y", "x"))), [((), "y"), ((), "x"), (("y",), "x")])


class KeepsTest(unittest.TestCase):
    def test_programs(self):
        steps = [(word, name) for word in ("lock", "free") for name in ABC]
        for seed in range(6):
            rule = random_rule(seed)
            for many in range(5):
                for program in itertools.product(steps, repeat=many):
                    self.assertIs(rule.keeps(list(program)), plain_keeps(list(rule), ABC, program))

    def test_longer_programs(self):
        rule = Rule.rising(ABC)
        self.assertTrue(rule.keeps([("lock", "b"), ("lock", "a"), ("free", "b"), ("lock", "c"), ("free", "a"), ("free", "c")]))
        self.assertFalse(rule.keeps([("lock", "b"), ("lock", "c"), ("lock", "a"), ("free", "a"), ("free", "c"), ("free", "b")]))

    def test_any_items(self):
        rule = Rule.every(("a", "b"))
        good = [("lock", "a"), ("free", "a")]
        for item in [("lock", "c"), ("free", "c"), ("lock",), ("take", "a"), ["lock", "b"], None, "lock", (), ("lock", ["b"]),
                     ("lock", None), (None, "b"), (["lock"], "b"), 0, ("lock", "b", None), ("read", "x", "c", None), {}]:
            self.assertIs(rule.keeps([item]), False)
            self.assertIs(rule.keeps(good[:1] + [item] + good[1:]), False)
            self.assertIs(rule.keeps(good + [item]), False)
            self.assertIs(rule.keeps([item, item]), False)
        self.assertIs(rule.keeps([]), True)
        self.assertIs(Rule(("a",)).keeps([]), True)
        self.assertIs(rule.keeps(good[:1]), False)


class ReachableTest(unittest.TestCase):
    def test_held_tuples(self):
        self.assertEqual(reachable(Rule(ABC)), [()])
        self.assertEqual(reachable(Rule.every(ABC)), HELDS)
        self.assertEqual(reachable(Rule(ABC, [((), "b"), (("a",), "c")])), [(), ("b",)])
        self.assertEqual(reachable(Rule(ABC, [((), "b"), (("b",), "c")])), [(), ("b",), ("c",), ("b", "c")])

    def test_those_of_the_document(self):
        for seed in range(40):
            rule = random_rule(seed)
            found = plain_reachable(rule)
            self.assertEqual(reachable(rule), [held for held in HELDS if frozenset(held) in found])

    def test_within(self):
        steps = [(word, name) for word in ("lock", "free") for name in ABC]
        programs = list(itertools.product(steps, repeat=4)) + list(itertools.product(steps, repeat=2))
        told = {True: 0, False: 0}
        for seed in range(30):
            a, b = random_rule(seed), random_rule(seed + 100)
            b = b | a - Rule(ABC, list(a)[seed % 3::4]) if seed % 2 else a - Rule(ABC, list(a)[seed % 5:seed % 5 + 1])
            found = within(a, b)
            told[found] += 1
            kept = [program for program in programs if a.keeps(list(program))]
            if found:
                self.assertTrue(all(b.keeps(list(program)) for program in kept))
            reached = [(held, name) for held, name in a if frozenset(held) in plain_reachable(a)]
            self.assertIs(found, all(entry in b for entry in reached))
        self.assertGreater(min(told.values()), 3)

    def test_entries_that_are_not_reached_do_not_count(self):
        a = Rule(ABC, [((), "b"), (("a",), "c"), (("a", "c"), "b")])
        self.assertIs(within(a, Rule(ABC, [((), "b")])), True)
        self.assertIs(within(Rule(ABC, [((), "b")]), a), True)
        self.assertIs(within(a, Rule(ABC, [((), "a")])), False)
        self.assertIs(within(Rule(ABC), Rule(ABC)), True)


if __name__ == "__main__":
    unittest.main()
