import itertools
import unittest

from coretower.errors import NoStanding, NotMet, OtherWeb
from coretower.games import Game
from coretower.papers import Paper, lockstep
from coretower.webs import Web
from tests.samples import (back, call, is_paper, led_to, moves_of, plain_replies, random_web, ring_of, row_of, runs_of,
                           step, visible)

A, B, S = call("a"), call("b"), step()

# low answers 0 or 1 after a call; high settles which one it is by a hidden move.
LOW = [[(A, 1)], [(back(0), 0), (back(1), 0)]]
HIGH = [[(A, 1)], [(step(0), 2), (step(1), 3)], [(back(0), 0)], [(back(1), 0)]]
GOOD = [(0, 0), (1, 1)]


def paper_of(low, high, pairs):
    return Paper(Web(low), Web(high), pairs)


def mixed(rows):
    """The same moves in another order."""
    return [row[::-1] for row in rows]


class MakingTest(unittest.TestCase):
    def test_fields_and_items(self):
        low, high = Web(LOW), Web(HIGH)
        paper = Paper(low, high, [(1, 3), (0, 2), (1, 3), (1, 0), (0, 2)])
        self.assertIs(paper.low, low)
        self.assertIs(paper.high, high)
        self.assertEqual(len(paper), 3)
        self.assertEqual(list(paper), [(0, 2), (1, 0), (1, 3)])
        self.assertIs((1, 3) in paper, True)
        self.assertIs((1, 1) in paper, False)

    def test_no_pairs_at_all(self):
        self.assertEqual((len(paper_of(LOW, HIGH, [])), list(paper_of(LOW, HIGH, []))), (0, []))

    def test_what_is_no_pair_of_standings_is_not_in_it(self):
        paper = paper_of(LOW, HIGH, [(0, 0), (1, 0), (1, 1)])
        for pair in ((0, 9), (9, 0), (True, 0), (1, True), (0, False), [0, 0], (0,), (0, 0, 0), None, ([0], 0), 0):
            self.assertIs(pair in paper, False)

    def test_no_standing(self):
        odd = [2, -1, True, False, None, "0", 0.0, (0,), [0]]
        for item in odd:
            with self.subTest(item=item):
                with self.assertRaises(NoStanding) as caught:
                    paper_of(LOW, HIGH, [(0, 0), (item, 99), (77, 77)])
                self.assertIs(caught.exception.at, item)
        for item in [4] + odd[1:]:
            with self.subTest(item=item):
                with self.assertRaises(NoStanding) as caught:
                    paper_of(LOW, HIGH, [(1, 3), (0, item), (77, 0)])
                self.assertIs(caught.exception.at, item)

    def test_low_and_high_have_their_own_bounds(self):
        self.assertEqual(len(paper_of(LOW, HIGH, [(1, 3)])), 1)
        with self.assertRaises(NoStanding):
            paper_of(LOW, HIGH, [(3, 1)])

    def test_what_is_given_is_copied(self):
        pairs = [(0, 0)]
        paper = paper_of(LOW, HIGH, pairs)
        pairs.append((1, 1))
        self.assertEqual(list(paper), [(0, 0)])

    def test_union(self):
        a = paper_of(LOW, HIGH, [(1, 1), (0, 3)])
        b = paper_of(mixed(LOW), mixed(HIGH), [(0, 0), (1, 1)])
        both = a | b
        self.assertIsInstance(both, Paper)
        self.assertEqual(list(both), [(0, 0), (0, 3), (1, 1)])
        self.assertIs(both.low, a.low)
        self.assertIs(both.high, a.high)
        self.assertEqual((list(a), list(b)), ([(0, 3), (1, 1)], [(0, 0), (1, 1)]))

    def test_union_over_other_webs(self):
        a = paper_of(LOW, HIGH, GOOD)
        for low, high in ((HIGH, HIGH), (LOW, LOW), (LOW, HIGH + [[]]), ([[(A, 0)], LOW[1]], HIGH),
                          (LOW[:1] + [[(back(0), 0), (back(2), 0)]], HIGH)):
            with self.assertRaises(OtherWeb):
                a | paper_of(low, high, [(0, 0)])
            with self.assertRaises(OtherWeb):
                paper_of(low, high, [(0, 0)]) | a
        self.assertEqual(list(a), GOOD)


class FaultTest(unittest.TestCase):
    def test_no_fault(self):
        self.assertIsNone(paper_of(LOW, HIGH, GOOD).fault())

    def test_first_pair_is_missing(self):
        self.assertEqual(paper_of(LOW, HIGH, [(1, 1)]).fault(), ((0, 0), None))
        self.assertEqual(paper_of(LOW, HIGH, []).fault(), ((0, 0), None))

    def test_first_move_that_is_not_met(self):
        self.assertEqual(paper_of(LOW, HIGH, [(0, 0)]).fault(), ((0, 0), A))
        self.assertEqual(paper_of(LOW, HIGH, [(1, 2), (0, 0), (1, 1)]).fault(), ((1, 2), back(1)))
        self.assertEqual(paper_of(LOW, HIGH, [(1, 3), (1, 2), (0, 2), (0, 0), (1, 1)]).fault(), ((0, 2), A))
        self.assertEqual(paper_of(LOW, [[(A, 1)], []], GOOD).fault(), ((1, 1), back(0)))

    def test_hidden_moves_keep_high_where_it_is(self):
        low, high = [[(S, 1)], [(A, 0)]], [[(A, 0), (S, 1)], [(A, 0)]]
        self.assertEqual(paper_of(low, high, [(0, 0)]).fault(), ((0, 0), S))
        self.assertEqual(paper_of(low, high, [(0, 0), (1, 1)]).fault(), ((0, 0), S))
        self.assertIsNone(paper_of(low, high, [(0, 0), (1, 0)]).fault())

    def test_fault_against_the_words_of_point_5(self):
        for seed in range(400):
            low, high = random_web(seed, most=3), random_web(seed + 1000, most=3)
            rows, high_rows = moves_of(low), moves_of(high)
            every = [(x, y) for x in range(len(low)) for y in range(len(high))]
            pairs = [(0, 0)] * (seed % 4 > 0) + [pair for at, pair in enumerate(every) if (seed * 7 + at * 3) % 5 < 3]
            paper = Paper(low, high, pairs)
            faults = [(pair, move[0]) for pair in sorted(set(pairs)) for move in rows[pair[0]]
                      if not any(other in pairs for other in led_to(rows, high_rows, pair, move))]
            told = paper.fault()
            self.assertEqual(told is None, is_paper(rows, high_rows, set(pairs)))
            self.assertEqual(told, ((0, 0), None) if (0, 0) not in pairs else faults[0] if faults else None)

    def test_fault_over_long_rows_and_rings(self):
        ring = Web([[(S, (at + 1) % 3000), (A, at)] for at in range(3000)])
        row = Web([[(S, at + 1)] if at < 3999 else [(A, 0)] for at in range(4000)])
        loop = Web([[(A, 0)]])
        self.assertIsNone(Paper(loop, ring, [(0, 0), (0, 7)]).fault())
        self.assertEqual(Paper(loop, ring, [(0, 0), (0, 2999)]).reply((0, 2999), A), 0)
        self.assertIsNone(Paper(loop, row, [(0, at) for at in range(4000)]).fault())
        self.assertEqual(Paper(loop, row, [(0, at) for at in range(4000)]).reply((0, 17), A), 0)


class ReplyTest(unittest.TestCase):
    def test_least_reply(self):
        high = [[(A, 3), (S, 1)], [(A, 2), (S, 2)], [(A, 1)], []]
        paper = paper_of([[(A, 0)]], high, [(0, 0), (0, 2), (0, 3)])
        self.assertEqual(paper.reply((0, 0), A), 2)
        paper = paper_of([[(A, 0)]], high, [(0, 0), (0, 3)])
        self.assertEqual(paper.reply((0, 0), A), 3)

    def test_it_need_be_no_paper(self):
        paper = paper_of(LOW, HIGH, [(1, 1), (0, 0), (1, 3)])
        self.assertEqual(paper.reply((0, 0), A), 1)
        self.assertEqual(paper.reply((1, 3), back(1)), 0)

    def test_all_other_cases(self):
        paper = paper_of([[(A, 1), (S, 0)], LOW[1]], HIGH, [(0, 0), (1, 1), (1, 2), (0, 3)])
        cases = [((0, 1), A), ((1, 0), back(0)), ((0, 0), S), ((0, 0), B), ((0, 0), back(0)), ((1, 2), back(1)),
                 ((0, 3), A), ((9, 9), A), ([0, 0], A), ((0, 0), list(A)), (None, A), ((0, 0), None), ((False, 0), A),
                 ((0, 0), (False, "call", "a")), ((0, 0), (0, "call", ["a"])), ((0, 0, 0), A), ("ab", A)]
        for pair, deed in cases:
            with self.subTest(pair=pair, deed=deed):
                with self.assertRaises(NotMet) as caught:
                    paper.reply(pair, deed)
                self.assertIs(caught.exception.pair, pair)
                self.assertIs(caught.exception.deed, deed)

    def test_reply_against_the_words(self):
        for seed in range(100):
            low, high = random_web(seed, most=3), random_web(seed + 50, most=4)
            rows, high_rows = moves_of(low), moves_of(high)
            pairs = [(x, y) for x in range(len(low)) for y in range(len(high)) if (x * 5 + y * 3 + seed) % 4 < 3]
            paper = Paper(low, high, pairs)
            for pair in pairs:
                for deed, goal in rows[pair[0]]:
                    replies = plain_replies(high_rows, pair[1], deed) if visible(deed) else []
                    met = [reply for reply in replies if (goal, reply) in pairs]
                    if met:
                        self.assertEqual(paper.reply(pair, deed), met[0])
                    else:
                        with self.assertRaises(NotMet):
                            paper.reply(pair, deed)


class ThenTest(unittest.TestCase):
    def test_pairs_through_a_common_standing(self):
        a = paper_of(LOW, HIGH, [(0, 0), (0, 2), (1, 3)])
        b = paper_of(mixed(HIGH), LOW, [(0, 1), (2, 0), (2, 1), (1, 1)])
        told = a.then(b)
        self.assertIsInstance(told, Paper)
        self.assertEqual(list(told), [(0, 0), (0, 1)])
        self.assertIs(told.low, a.low)
        self.assertIs(told.high, b.high)

    def test_other_web(self):
        a = paper_of(LOW, HIGH, GOOD)
        for rows in (LOW, HIGH + [[]], HIGH[:3] + [[(back(2), 0)]]):
            with self.assertRaises(OtherWeb):
                a.then(paper_of(rows, HIGH, []))

    def test_the_facts_of_point_5(self):
        done = 0
        for seed in range(3000):
            a, b, c = [random_web(seed * 3 + part, most=3, chance=0.3) for part in range(3)]
            first, second, third = Game(a, b).paper(), Game(b, c).paper(), Game(a, b).paper()
            if first is None or second is None:
                continue
            done += 1
            joined = first.then(second)
            self.assertIsNone(joined.fault())
            self.assertTrue(is_paper(moves_of(a), moves_of(c), set(joined)))
            both = first.trimmed() | third
            self.assertIsNone(both.fault())
        self.assertGreater(done, 100)


class TrimmedTest(unittest.TestCase):
    def test_only_what_least_replies_lead_to(self):
        high = [[(A, 2), (S, 1)], [(A, 1)], [(A, 2)]]
        paper = paper_of([[(A, 0)]], high, [(0, 0), (0, 1), (0, 2)])
        self.assertEqual(list(paper.trimmed()), [(0, 0), (0, 1)])
        self.assertEqual(len(paper), 3)
        self.assertEqual(list(paper_of([[(A, 0)]], high, [(0, 0), (0, 2)]).trimmed()), [(0, 0), (0, 2)])

    def test_hidden_moves_too(self):
        low = [[(S, 1)], [(A, 0)], [(A, 0)]]
        paper = paper_of(low, [[(A, 0)]], [(0, 0), (1, 0), (2, 0)])
        self.assertEqual(list(paper.trimmed()), [(0, 0), (1, 0)])

    def test_no_paper(self):
        cases = [([(1, 1)], (0, 0), None), ([(0, 0), (1, 1), (1, 2)], (1, 2), back(1)), ([(0, 0)], (0, 0), A)]
        for pairs, pair, deed in cases:
            paper = paper_of(LOW, HIGH, pairs)
            with self.assertRaises(NotMet) as caught:
                paper.trimmed()
            self.assertEqual((caught.exception.pair, caught.exception.deed), (pair, deed))
            self.assertEqual(paper.fault(), (pair, deed))

    def test_against_replies(self):
        done = 0
        for seed in range(600):
            low, high = random_web(seed, most=3, chance=0.25), random_web(seed + 77, most=4)
            paper = Game(low, high).paper()
            if paper is None:
                continue
            done += 1
            found, waiting = {(0, 0)}, [(0, 0)]
            while waiting:
                at, high_at = waiting.pop()
                for deed, goal in low.moves(at):
                    pair = (goal, paper.reply((at, high_at), deed) if visible(deed) else high_at)
                    if pair not in found:
                        found.add(pair)
                        waiting.append(pair)
            self.assertEqual(list(paper.trimmed()), sorted(found))
            self.assertIsNone(paper.trimmed().fault())
        self.assertGreater(done, 50)


class SameTest(unittest.TestCase):
    def test_pairs(self):
        web = Web([[(S, 1), (A, 2)], [(step(1), 2)], [(B, 0)]])
        paper = Paper.same(web)
        self.assertEqual(list(paper), [(0, 0), (1, 0), (1, 1), (2, 0), (2, 1), (2, 2)])
        self.assertIs(paper.low, web)
        self.assertIs(paper.high, web)

    def test_it_is_a_paper(self):
        for seed in range(100):
            self.assertIsNone(Paper.same(random_web(seed)).fault())

    def test_long_rows_and_rings(self):
        self.assertEqual(len(Paper.same(ring_of(300, S))), 90000)
        self.assertEqual(len(Paper.same(row_of(300, S))), 300 * 301 // 2)
        self.assertEqual(len(Paper.same(ring_of(4000, A))), 4000)


class LockstepTest(unittest.TestCase):
    def test_high_waits_at_the_last_visible_deed(self):
        low = Web([[(S, 1)], [(A, 2)], [(S, 0)]])
        high = Web([[(S, 3)], [(S, 0)], [], [(A, 1)]])
        self.assertEqual(list(lockstep(low, high)), [(0, 0), (0, 1), (1, 0), (1, 1), (2, 1)])

    def test_none(self):
        self.assertIsNone(lockstep(Web([[(S, 0)]]), Web([[(step(1), 0)]])))
        self.assertIsNone(lockstep(Web([[(A, 1)], [(S, 0)]]), Web([[(A, 0)]])))

    def test_moves_that_no_run_leads_to_do_not_count(self):
        self.assertEqual(list(lockstep(Web([[(A, 0)], [(B, 0)]]), Web([[(A, 0)]]))), [(0, 0)])

    def test_against_the_runs(self):
        papers = 0
        for seed in range(300):
            low = random_web(seed, most=3, chance=0.3)
            high = random_web(seed + 9)
            if seed % 2:
                high = Web([row + [(B, 0)] * (B not in dict(row)) for row in moves_of(low)])
            told = lockstep(low, high)
            rows, high_rows = moves_of(low), moves_of(high)
            pairs, lacking = set(), False
            for run, at in runs_of(rows, 6):
                try:
                    high.go(run)
                except ValueError:
                    lacking = True
                    continue
                last = max([index + 1 for index, deed in enumerate(run) if visible(deed)], default=0)
                pairs.add((at, high.go(run[:last])))
            if told is None:
                self.assertTrue(lacking)
            else:
                papers += 1
                self.assertFalse(lacking)
                self.assertLessEqual(pairs, set(told))
                if len(low) * len(high) <= 4:
                    self.assertEqual(pairs, set(told))
                self.assertIsNone(told.fault())
                self.assertTrue(is_paper(rows, high_rows, set(told)))
        self.assertGreater(papers, 100)

    def test_long(self):
        self.assertEqual(len(lockstep(row_of(4000, A), row_of(4000, A))), 4000)
        self.assertEqual(set(lockstep(row_of(4000, S), row_of(4000, S))), {(at, 0) for at in range(4000)})
        self.assertIsNone(lockstep(row_of(4000, S), row_of(3999, S)))
        self.assertEqual(len(list(itertools.islice(lockstep(ring_of(60, A), ring_of(7, A)), 421))), 420)


if __name__ == "__main__":
    unittest.main()
