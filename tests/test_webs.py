import itertools
import unittest

from coretower.errors import BadRun, BadWeb, NoStanding, TooLarge
from coretower.webs import Web, shown
from tests.samples import back, call, plain_replies, random_rows, ring_of, row_of, runs_of, step, visible

A, B, S = call("a"), call("b"), step()

BAD_DEEDS = [
    [0, "call", "a"], "abc", None, 7, (), (0, "call"), (0, "call", "a", 1),
    (3, "call", "a"), (-1, "call", "a"), (True, "call", "a"), (False, "call", "a"), ("0", "call", "a"),
    (None, "step", 0),
    (0.0, "call", "a"), ((0,), "call", "a"),
    (0, "calls", "a"), (0, "", "a"), (0, 1, "a"), (0, None, 0), (0, ["call"], "a"), (0, ("call",), "a"),
    (0, "steps", 0), (0, "Return", 0), (0, "", 0), (0, ["step"], 0), (0, 0, 0),
    (0, "call", ""), (0, "call", "abcdefghi"), (0, "call", "A"), (0, "call", "a1"), (0, "call", "a b"),
    (0, "call", "a\n"),
    (0, "call", "\u00e4"), (0, "call", 1), (0, "call", None), (0, "call", ["a"]), (0, "call", ("a",)),
    (0, "return", 10), (0, "return", -1), (0, "return", True), (0, "return", "1"), (0, "return", None),
    (0, "return", [1]),
    (0, "step", 10), (0, "step", -1), (0, "step", False), (0, "step", "a"), (0, "step", 1.0),
]
NO_STANDINGS = [-1, 3, 4000, True, False, None, "0", 0.0, (0,), [0], {}]


class MakingTest(unittest.TestCase):
    def test_one_and_4000_standings(self):
        self.assertEqual(len(Web([[]])), 1)
        self.assertEqual(len(Web([[] for _ in range(4000)])), 4000)

    def test_none_and_4001_standings(self):
        for rows in ([], [[] for _ in range(4001)], [[None]] * 4001, [[("x", 0)]] * 5000):
            with self.assertRaises(TooLarge) as caught:
                Web(rows)
            self.assertEqual(caught.exception.bound, 4000)

    def test_edges_of_deeds(self):
        moves = [((caller, word, what), 0) for caller in (0, 1, 2)
                 for word, what in (("call", "a"), ("call", "abcdefgh"), ("call", "z"), ("return", 0), ("return", 9),
                                    ("step", 0), ("step", 9))]
        self.assertEqual(Web([moves]).moves(0), sorted(moves))

    def test_each_part_of_a_deed_wrong_in_turn(self):
        for deed in BAD_DEEDS:
            with self.subTest(deed=deed):
                with self.assertRaises(BadWeb) as caught:
                    Web([[(A, 0)], [(A, 1), (deed, 0)], [(deed, 0)]])
                self.assertEqual(caught.exception.at, 1)

    def test_moves_that_are_no_pairs_and_goals_that_are_no_standings(self):
        bad = [[A, 0], (A,), (A, 0, 0), A, None, 5, "ab", ()] + [(A, at) for at in NO_STANDINGS]
        for move in bad:
            with self.subTest(move=move):
                with self.assertRaises(BadWeb) as caught:
                    Web([[(A, 2)], [], [(B, 0), move]])
                self.assertEqual(caught.exception.at, 2)

    def test_two_moves_for_one_deed(self):
        for goals in ((0, 1), (1, 1)):
            with self.assertRaises(BadWeb) as caught:
                Web([[(A, 0)], [(A, goals[0]), (B, 0), (A, goals[1])], [(None, 0)]])
            self.assertEqual(caught.exception.at, 1)

    def test_same_deed_of_two_callers_is_two_deeds(self):
        self.assertEqual(len(Web([[(call("a", 0), 0), (call("a", 1), 0), (step(0), 0), (step(1), 0)]]).moves(0)), 4)

    def test_what_is_given_is_copied_and_what_is_returned_is_new(self):
        rows = [[(A, 1)], []]
        web = Web(rows)
        rows[0].append((B, 0))
        rows[1].append((B, 0))
        rows.append([])
        self.assertEqual((len(web), web.moves(0), web.moves(1)), (2, [(A, 1)], []))
        web.moves(0).append((B, 0))
        web.replies(0, A).append(0)
        self.assertEqual((web.moves(0), web.replies(0, A)), ([(A, 1)], [1]))


class TellingTest(unittest.TestCase):
    def test_moves_ascend(self):
        moves = [(step(3, 1), 0), (back(2, 1), 0), (call("b"), 0), (step(0), 0), (call("a"), 0), (call("aa"), 0)]
        self.assertEqual(Web([moves]).moves(0), [
            (call("a"), 0), (call("aa"), 0), (call("b"), 0), (step(0), 0), (back(2, 1), 0), (step(3, 1), 0)])

    def test_numbers_that_are_no_standings(self):
        web = Web([[], [], []])
        for at in NO_STANDINGS:
            for ask in (web.moves, lambda at: web.replies(at, A)):
                with self.subTest(at=at):
                    with self.assertRaises(NoStanding) as caught:
                        ask(at)
                    self.assertIs(caught.exception.at, at)

    def test_replies_go_through_hidden_moves_ahead_of_the_deed_alone(self):
        web = Web([[(S, 1), (A, 3)], [(A, 2), (step(1), 0)], [(S, 4)], [], []])
        self.assertEqual(web.replies(0, A), [2, 3])
        self.assertEqual(web.replies(1, A), [2, 3])
        self.assertEqual(web.replies(2, A), [])
        self.assertEqual(web.replies(0, B), [])
        self.assertEqual(web.replies(0, call("a", 1)), [])

    def test_replies_against_the_words_of_point_4(self):
        for seed in range(200):
            rows = random_rows(seed)
            web = Web(rows)
            for at in range(len(rows)):
                for deed in (A, B, back(0)):
                    self.assertEqual(web.replies(at, deed), plain_replies(rows, at, deed))

    def test_replies_over_long_rows_and_rings(self):
        row = Web([[(S, at + 1)] if at < 3999 else [(A, 0), (B, 5)] for at in range(4000)])
        self.assertEqual((row.replies(0, A), row.replies(3999, B), row.lacks([A] * 20 + [B, A])), ([0], [5], None))
        ring = Web([[(S, (at + 1) % 4000), (A, at)] for at in range(4000)])
        self.assertEqual(ring.replies(1234, A), list(range(4000)))

    def test_go(self):
        web = Web([[(A, 1)], [(S, 2)], [(B, 0)]])
        self.assertEqual([web.go(run) for run in ([], [A], [A, S], [A, S, B], [A, S, B, A])], [0, 1, 2, 0, 1])
        for run, at in (([B], 0), ([A, B], 1), ([A, S, B, A, A], 4), ([A, S, B, B, A], 3)):
            with self.assertRaises(BadRun) as caught:
                web.go(run)
            self.assertEqual(caught.exception.at, at)

    def test_go_makes_no_deed_of_true_or_false(self):
        web = Web([[(call("a", 1), 0), (back(0), 0)]])
        for deed in ((True, "call", "a"), (0, "return", False), [1, "call", "a"]):
            with self.assertRaises(BadRun):
                web.go([deed])

    def test_go_over_a_long_row(self):
        self.assertEqual(row_of(4000, A).go([A] * 3999), 3999)


class HistoriesTest(unittest.TestCase):
    def test_lacks_and_in(self):
        web = Web([[(S, 1), (A, 0)], [(B, 2)], [(S, 2)]])
        for history in ([], [A], [A, A, B], [B]):
            self.assertIsNone(web.lacks(history))
            self.assertIs(history in web, True)
        for history, at in (([B, A], 1), ([A, A, B, B, A], 3), ([back(1)], 0), ([A, call("a", 1)], 1)):
            self.assertEqual(web.lacks(history), at)
            self.assertIs(history in web, False)

    def test_what_is_no_visible_deed_is_in_no_history(self):
        web = Web([[(S, 0), (A, 0), (back(1), 0)]])
        for deed in (S, (False, "call", "a"), (0, "return", True), [0, "call", "a"], (0, "call", ["a"]), None):
            self.assertEqual(web.lacks([A, deed]), 1)
            self.assertIs([deed] in web, False)

    def test_lacks_keeps_all_standings_in_view(self):
        web = Web([[(A, 1), (S, 2)], [(B, 0)], [(A, 3)], [(back(1), 0)]])
        self.assertTrue([A, B, A, back(1), A] in web)
        self.assertEqual(web.lacks([A, B, B]), 2)

    def test_histories_against_the_runs(self):
        for seed in range(60):
            rows = random_rows(seed, most=4)
            web = Web(rows)
            runs = [shown(run) for run, _ in runs_of(rows, 4)]
            found = list(web.histories(3))
            self.assertEqual(found, sorted(found, key=lambda row: (len(row), row)))
            self.assertEqual(len({tuple(row) for row in found}), len(found))
            self.assertTrue(all(row in found for row in runs if len(row) <= 3))
            self.assertTrue(all(web.lacks(row) is None for row in found))
            deeds = sorted({deed for row in rows for deed, _ in row if visible(deed)})
            rows_of_deeds = [list(row) for many in range(4) for row in itertools.product(deeds, repeat=many)]
            self.assertEqual(found, [row for row in rows_of_deeds if web.lacks(row) is None])

    def test_histories_by_length_then_ascending(self):
        web = Web([[(B, 0), (A, 1), (S, 1)], [(back(3), 0)]])
        self.assertEqual(list(web.histories(0)), [[]])
        self.assertEqual(list(web.histories(2)), [
            [], [A], [B], [back(3)], [A, back(3)], [B, A], [B, B], [B, back(3)],
            [back(3), A], [back(3), B], [back(3), back(3)]])

    def test_histories_end_where_the_web_does(self):
        self.assertEqual(list(row_of(3, A).histories(10 ** 9)), [[], [A], [A, A]])
        self.assertEqual(len(list(row_of(600, A).histories(1000))), 600)

    def test_each_history_comes_as_soon_as_it_is_found(self):
        names = [a + b for a in "abcdefghij" for b in "abcdefghij"]
        web = Web([[(call(name), 0) for name in names]])
        found = list(itertools.islice(web.histories(1000), 10202))
        self.assertEqual(len(found[-1]), 3)
        self.assertEqual(found[:3], [[], [call("aa")], [call("ab")]])
        self.assertEqual(found[101:103], [[call("aa"), call("aa")], [call("aa"), call("ab")]])

    def test_histories_are_new_lists(self):
        web = ring_of(1, A)
        for history in web.histories(3):
            history.append(B)
        self.assertEqual(list(web.histories(2)), [[], [A], [A, A]])
        told = web.histories(4)
        next(told).append(B)
        next(told).append(B)
        self.assertEqual(next(told), [A, A])

    def test_shown(self):
        run = [S, A, step(2, 2), back(1), call("a", 1), S]
        self.assertEqual(shown(run), [A, back(1), call("a", 1)])
        self.assertEqual(shown([]), [])
        self.assertEqual(len(run), 6)


if __name__ == "__main__":
    unittest.main()
