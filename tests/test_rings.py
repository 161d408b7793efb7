import itertools
import unittest

from coretower.builds import Build
from coretower.clients import once
from coretower.errors import BadNumber
from coretower.locking import Rule
from coretower.rings import Ring, ring_of, strikes
from coretower.spaces import Space
from tests.test_locking import ABC, EVERY, random_rule

# A ring of these two programs is there only if the one takes both locks and frees the first one in time.
LATE = Rule(("a", "b"), [((), "a"), (("a",), "b"), (("b",), "a")])


def ordered(held, locks):
    return tuple(lock for lock in locks if lock in held)


def plain_rings(rule, many):
    """Whether a ring of some of so many programs comes about (point 34)."""
    locks = rule.locks()
    entries = list(rule)
    first = (frozenset(),) * many
    found, waiting = {first}, [first]
    while waiting:
        helds = waiting.pop()
        for size in range(2, many + 1):
            for circle in itertools.permutations(range(many), size):
                if all(any((ordered(helds[at], locks), name) in entries for name in helds[following])
                       for at, following in zip(circle, circle[1:] + circle[:1])):
                    return True
        for at, held in enumerate(helds):
            goals = [held | {name} for name in locks if (ordered(held, locks), name) in entries
                     and not any(name in other for other in helds)]
            for goal in goals + [held - {name} for name in held]:
                after = helds[:at] + (goal,) + helds[at + 1:]
                if after not in found:
                    found.add(after)
                    waiting.append(after)
    return False


class RingTest(unittest.TestCase):
    def check(self, rule, ring):
        locks = rule.locks()
        programs = ring.programs
        self.assertEqual(len(ring.wants), len(programs))
        self.assertEqual(sorted(ring.order), sorted(at for at, steps in enumerate(programs) for _ in steps))
        waiting = [list(steps) for steps in programs]
        helds = [set() for _ in programs]
        for at in ring.order:
            word, name = waiting[at].pop(0)
            if word == "lock":
                self.assertIn((ordered(helds[at], locks), name), rule)
                self.assertFalse(any(name in held for held in helds))
                helds[at].add(name)
            else:
                self.assertEqual(word, "free")
                helds[at].remove(name)
        for at, want in enumerate(ring.wants):
            self.assertIn((ordered(helds[at], locks), want), rule)
            self.assertIn(want, helds[(at + 1) % len(helds)])
        self.check_build(rule, ring, helds)

    def check_build(self, rule, ring, helds):
        build, client = ring.as_build(), ring.as_client()
        names = ["pa", "pb", "pc"][:len(helds)]
        self.assertIsInstance(build, Build)
        self.assertEqual((build.base, build.cells(), build.names()), (2, {}, names))
        self.assertEqual(client, [once(name) for name in names])
        for name, steps, want, held in zip(names, ring.programs, ring.wants, helds):
            frees = [("free", lock) for lock in rule.locks() if lock in held or lock == want]
            self.assertEqual(build[name].steps(), steps + [("lock", want)] + frees + [("give", (0,), None)])
            self.assertTrue(rule.keeps(build[name].steps()[:-1]))
        space = Space(build, client)
        run = [(at, "call", name) for at, name in enumerate(names)] + [(at, "step", 0) for at in ring.order]
        at = space.web.go(run)
        self.assertEqual(space.web.moves(at), [])
        self.assertEqual([space.called(at, caller) for caller in range(len(names))], names)

    def test_two_programs(self):
        ring = ring_of(Rule.every(("a", "b")))
        self.assertIsInstance(ring, Ring)
        self.assertEqual(sorted(ring.programs), [[("lock", "a")], [("lock", "b")]])
        self.assertEqual(sorted(ring.wants), ["a", "b"])
        self.check(Rule.every(("a", "b")), ring)

    def test_a_program_may_free_a_lock_before_it_stops(self):
        rule = Rule(("a", "b"), [((), "a"), (("a",), "b"), (("b",), "a")])
        ring = ring_of(rule)
        self.assertEqual(sorted(ring.programs, key=len), [[("lock", "a")], [("lock", "a"), ("lock", "b"), ("free", "a")]])
        self.check(rule, ring)

    def test_a_circle_that_cannot_come_about(self):
        # Each of the two reaches what it should hold only by a lock that the other one holds by then.
        rule = Rule(ABC, [((), "b"), (("b",), "a"), (("a",), "b"), ((), "c")])
        self.assertIsNotNone(ring_of(rule))
        blocked = Rule(("a", "b", "c"), [((), "c"), (("c",), "a"), (("c",), "b"), (("a", "c"), "b"), (("b", "c"), "a")])
        self.assertIsNone(ring_of(blocked))
        self.assertEqual(plain_rings(blocked, 3), False)

    def test_three_programs(self):
        rule = Rule(("a", "b", "c"), [((), "a"), ((), "b"), ((), "c"), (("a",), "b"), (("b",), "c"), (("c",), "a")])
        ring = ring_of(rule)
        self.assertEqual(len(ring.programs), 3)
        self.check(rule, ring)

    def test_what_is_told_is_new_each_time(self):
        ring = ring_of(LATE)
        self.check(LATE, ring)
        ring.programs.clear()
        ring.programs[0].clear()
        ring.wants.clear()
        ring.order.clear()
        ring.as_client().clear()
        self.check(LATE, ring)

    def test_rules_that_are_never_stuck(self):
        for rule in [Rule.rising(ABC), Rule.gate(ABC), Rule(ABC), Rule.every(("a",)), Rule(ABC, EVERY[:3])]:
            self.assertIsNone(ring_of(rule))

    def test_rings_are_those_of_the_document(self):
        sizes = {None: 0, 2: 0, 3: 0}
        rules = [random_rule(seed) for seed in range(150)] + [random_rule(seed, ("x", "y")) for seed in range(20)]
        rules += [rule - Rule(ABC, [entry for entry in EVERY if (entry[0], entry[1]) in [
            (("b",), "c"), (("a",), "b"), (("c",), "a")]]) for rule in rules[:60] if len(rule.locks()) == 3]
        for rule in rules:
            ring = ring_of(rule)
            size = None if ring is None else len(ring.programs)
            sizes[size] += 1
            self.assertEqual(plain_rings(rule, 2), size == 2)
            self.assertEqual(plain_rings(rule, 3), size is not None)
            if ring is not None:
                self.check(rule, ring)
        self.assertGreater(min(sizes.values()), 2)

    def test_more_programs_make_no_other_ring(self):
        for seed in range(12):
            self.assertEqual(plain_rings(random_rule(seed), 4), ring_of(random_rule(seed)) is not None)


class StrikesTest(unittest.TestCase):
    def plain_strikes(self, rule, most):
        found = []
        for many in range(most + 1):
            for chosen in itertools.combinations(list(rule), many):
                if any(set(other) <= set(chosen) for other in found):
                    continue
                if ring_of(Rule(tuple(rule.locks()), [entry for entry in rule if entry not in chosen])) is None:
                    found.append(chosen)
        return found

    def test_strikes(self):
        rule = Rule.every(("a", "b"))
        self.assertEqual(strikes(rule, 0), [])
        self.assertEqual(strikes(rule, 1), [((("a",), "b"),), ((("b",), "a"),)])
        self.assertEqual(strikes(rule, 2), [((("a",), "b"),), ((("b",), "a"),), (((), "a"), ((), "b"))])
        for most in (0, 1, 2):
            self.assertEqual(strikes(Rule.gate(ABC), most), [()])
        self.assertEqual(strikes(Rule.every(ABC), 2), [])

    def test_those_of_the_document(self):
        many = 0
        for seed in range(40):
            rule = random_rule(seed)
            for most in (0, 1, 2):
                found = strikes(rule, most)
                self.assertEqual(found, self.plain_strikes(rule, most))
                many += len([chosen for chosen in found if len(chosen) == 2])
        self.assertGreater(many, 10)

    def test_wrong_numbers(self):
        for most in (-1, 3, True, None, "1", (1,)):
            for rule in (Rule.gate(ABC), Rule.every(ABC)):
                with self.assertRaises(BadNumber) as caught:
                    strikes(rule, most)
                self.assertIs(caught.exception.number, most)


if __name__ == "__main__":
    unittest.main()
