import unittest

from coretower.errors import BadReply, TooLarge
from coretower.games import Game, Spoiler
from coretower.papers import Paper
from coretower.webs import Web, shown
from tests.samples import (back, call, is_paper, led_to, moves_of, plain_rounds, plain_sets, random_web, ring_of,
                           row_of, sample_pair, step, visible)

A, B, S = call("a"), call("b"), step()
WEAKNESS = ["at once", "afterwards", "never"]

# low settles nothing at the call and answers 0 or 1; high settles at the call which one it will be.
LATE = Web([[(A, 1)], [(back(0), 0), (back(1), 0)]])
EARLY = Web([[(step(0), 1), (step(1), 2)], [(A, 3)], [(A, 4)], [(back(0), 0)], [(back(1), 0)]])
SHORT = Web([[(A, 1)], [(back(0), 0)]])


def full_sets():
    """Standing n is in view if the nth deed from the last is A: 2 ** 14 sets of the standings 0 to 14."""
    rows = [[(A, 0), (B, 0), (S, 15)]]
    rows += [[(A, at + 1), (B, at + 1)] for at in range(1, 14)]
    return Web(rows + [[], [(A, 1)]])


class RoundsTest(unittest.TestCase):
    def test_rounds_of_small_webs(self):
        self.assertEqual(Game(LATE, EARLY).rounds(), {(0, 0): 2, (1, 3): 1, (1, 4): 1})
        self.assertEqual(Game(EARLY, LATE).rounds(),
                         {(0, 0): 0, (1, 0): 0, (2, 0): 0, (3, 1): 0, (4, 1): 0})
        self.assertEqual(Game(SHORT, LATE).rounds(), {(0, 0): 0, (1, 1): 0})

    def test_hidden_moves_cost_a_round_too(self):
        self.assertEqual(Game(Web([[(S, 1)], [(step(1), 2)], [(A, 0)]]), Web([[]])).rounds(),
                         {(0, 0): 3, (1, 0): 2, (2, 0): 1})

    def test_a_pair_that_never_fails_beside_failing_ones(self):
        low = Web([[(A, 1)], [(B, 1)]])
        high = Web([[(A, 1), (S, 2)], [], [(A, 3)], [(B, 3)]])
        self.assertEqual(Game(low, high).rounds(), {(0, 0): 0, (1, 1): 1, (1, 3): 0})

    def test_rounds_sets_and_words_against_the_document(self):
        words = []
        for seed in range(1500):
            low, high = sample_pair(seed)
            game = Game(low, high)
            rows, high_rows = moves_of(low), moves_of(high)
            rounds = plain_rounds(rows, high_rows)
            sets, length = plain_sets(rows, high_rows)
            self.assertEqual(game.rounds(), rounds)
            self.assertEqual(game.sets(), sets)
            word = "at once" if rounds[(0, 0)] == 0 else "afterwards" if length is None else "never"
            self.assertEqual(game.word(), word)
            words.append(word)
            run = game.shortest()
            self.assertEqual(run is None, word != "never")
            if run is not None:
                self.assertEqual(len(run), length)
                low.go(run)
                self.assertEqual(high.lacks(shown(run)), len(shown(run)) - 1)
            self.assertEqual(game.spoiler() is None, word == "at once")
            paper = game.paper()
            self.assertEqual(paper is None, word != "at once")
            if paper is not None:
                self.assertEqual(list(paper), sorted(pair for pair in rounds if rounds[pair] == 0))
                self.assertIsNone(paper.fault())
                self.assertTrue(is_paper(rows, high_rows, set(paper)))
        for word in WEAKNESS:
            self.assertGreater(words.count(word), 15)

    def test_a_paper_exists_exactly_if_the_word_is_at_once(self):
        for seed in range(300):
            low, high = random_web(seed, most=2, chance=0.3), random_web(seed + 300, most=3, chance=0.5)
            every = [(x, y) for x in range(len(low)) for y in range(len(high))]
            rows, high_rows = moves_of(low), moves_of(high)
            exists = any(is_paper(rows, high_rows, {pair for at, pair in enumerate(every) if number >> at & 1})
                         for number in range(1 << len(every)))
            self.assertEqual(Game(low, high).word() == "at once", exists)

    def test_what_is_told_is_new(self):
        game = Game(LATE, SHORT)
        game.rounds().clear()
        game.sets().clear()
        game.shortest().clear()
        self.assertEqual((len(game.rounds()), len(game.sets()), len(game.shortest())), (2, 2, 2))
        self.assertIsNot(game.spoiler(), game.spoiler())

    def test_fields(self):
        game = Game(LATE, EARLY)
        self.assertIs(game.low, LATE)
        self.assertIs(game.high, EARLY)


class WordTest(unittest.TestCase):
    def test_the_three_words_and_their_none(self):
        game = Game(EARLY, LATE)
        self.assertEqual((game.word(), game.shortest(), game.spoiler()), ("at once", None, None))
        self.assertIsInstance(game.paper(), Paper)
        self.assertIs(game.paper().low, EARLY)
        self.assertIs(game.paper().high, LATE)
        game = Game(LATE, EARLY)
        self.assertEqual((game.word(), game.shortest(), game.paper()), ("afterwards", None, None))
        self.assertIsInstance(game.spoiler(), Spoiler)
        game = Game(LATE, SHORT)
        self.assertEqual((game.word(), game.shortest(), game.paper()), ("never", [A, back(1)], None))
        self.assertIsInstance(game.spoiler(), Spoiler)

    def test_sets(self):
        self.assertEqual(Game(LATE, EARLY).sets(), [(0, (0,)), (1, (3, 4))])
        self.assertEqual(Game(Web([[(A, 1)], [(S, 2)], [(B, 0)]]), Web([[(S, 1), (A, 0)], [(A, 1)]])).sets(),
                         [(0, (0,)), (1, (0, 1)), (2, (0, 1))])

    def test_at_once_over_long_webs(self):
        self.assertEqual(Game(row_of(4000, A), ring_of(4000, A)).word(), "at once")
        self.assertEqual(Game(ring_of(4000, S), Web([[]])).word(), "at once")
        many = [[(S, (at + 1) % 4000), (A, at)] for at in range(4000)]
        game = Game(ring_of(5, A), Web(many))
        self.assertEqual((game.word(), len(game.rounds()), game.paper().fault()), ("at once", 20000, None))
        many[3999] = [(A, 3999)]
        game = Game(ring_of(5, A), Web(many))
        self.assertEqual((game.word(), len(game.rounds()), len(game.paper().trimmed())), ("at once", 20000, 5))

    def test_never_over_long_webs(self):
        game = Game(row_of(4000, A), row_of(3999, A))
        self.assertEqual((game.word(), game.rounds()[(0, 0)], len(game.shortest())), ("never", 3999, 3999))
        self.assertEqual(len(game.sets()), 3999)
        game = Game(Web([[(S, at + 1)] if at < 3999 else [(A, 0)] for at in range(4000)]), Web([[]]))
        self.assertEqual((game.word(), game.rounds()[(0, 0)], len(game.shortest())), ("never", 4000, 4000))

    def test_afterwards_over_long_webs(self):
        many = 1500
        low = Web([[(A, at + 1)] for at in range(many)] + [[(back(0), 0), (back(1), 0)]])
        high = Web([[(A, 1), (S, many + 2)]] + [[(A, at + 1)] for at in range(1, many)] + [[(back(0), 0)]] + [[]]
                   + [[(A, many + 3 + at)] for at in range(many)] + [[(back(1), 0)]])
        game = Game(low, high)
        self.assertEqual((game.word(), game.rounds()[(0, 0)]), ("afterwards", many + 1))
        self.assertEqual(len(game.sets()), many + 1)

    def test_reply_sets_that_many_pairs_share(self):
        # A stair of hidden moves: each standing fails a round after the one below it.
        high = Web([[(A, at + 1), (S, at + 1)] if at < 1999 else [] for at in range(2000)])
        game = Game(ring_of(3, A), high)
        self.assertEqual(game.word(), "never")
        self.assertEqual(max(game.rounds().values()), 2000)


class BoundTest(unittest.TestCase):
    def test_reached_pairs(self):
        game = Game(ring_of(32, A), ring_of(625, A))
        self.assertEqual((game.word(), len(game.rounds())), ("at once", 20000))
        with self.assertRaises(TooLarge) as caught:
            Game(ring_of(339, A), ring_of(59, A))
        self.assertEqual(caught.exception.bound, 20000)

    def test_one_more_pair(self):
        loops = Web([[(A, (at + 1) % 32)] + [(B, at)] * (at == 0) for at in range(32)])
        more = Web([[(A, (at + 1) % 625)] + [(B, 625)] * (at == 0) for at in range(625)] + [[]])
        self.assertEqual(len(Game(ring_of(32, A), more).rounds()), 20000)
        with self.assertRaises(TooLarge) as caught:
            Game(loops, more)
        self.assertEqual(caught.exception.bound, 20000)

    def test_reached_sets_are_bounded_if_the_first_pair_fails(self):
        high = full_sets()
        fine = Game(Web([[(A, 0), (B, 0), (back(0), 0)]]), high)
        self.assertEqual((fine.word(), fine.shortest()), ("never", [back(0)]))
        self.assertEqual(len(fine.sets()), 2 ** 14)
        with self.assertRaises(TooLarge) as caught:
            Game(Web([[(A, 0), (B, 0), (S, 1)], [(A, 1), (B, 1), (back(0), 0)]]), high)
        self.assertEqual(caught.exception.bound, 20000)

    def test_reached_sets_have_no_bound_at_once(self):
        game = Game(Web([[(A, 0), (B, 0), (S, 1)], [(A, 1), (B, 1)]]), full_sets())
        self.assertEqual(game.word(), "at once")
        self.assertEqual(len(game.sets()), 2 ** 15)

    def test_exactly_20000_reached_sets(self):
        for more in (0, 1):
            low = Web([[(A, (at + 1) % 32)] + [(B, at), (back(0), at)] * (at == 0) for at in range(32)])
            rows = [[(A, (at + 1) % 625)] + [(B, 625)] * (at == 0) for at in range(625)] + [[]]
            rows[0] = rows[0][:1 + more]
            if more:
                with self.assertRaises(TooLarge):
                    Game(low, Web(rows))
            else:
                game = Game(low, Web(rows))
                self.assertEqual((game.word(), len(game.sets()), len(game.rounds())), ("never", 20000, 20000))


class SpoilerTest(unittest.TestCase):
    def test_a_short_one(self):
        spoiler = Game(LATE, EARLY).spoiler()
        self.assertEqual((spoiler.stand, spoiler.stretch, spoiler.won), ((0, 0), [A], False))
        self.assertEqual(spoiler(3), [back(1)])
        self.assertEqual((spoiler.stand, spoiler.stretch, spoiler.won), ((1, 3), [back(1)], True))
        spoiler = Game(LATE, EARLY).spoiler()
        self.assertEqual(spoiler(4), [back(0)])
        self.assertIs(spoiler.won, True)

    def test_what_is_no_reply_changes_nothing(self):
        spoiler = Game(LATE, EARLY).spoiler()
        for reply in (0, 1, 5, -1, 99, True, None, "3", (3,), [3], 3.0):
            with self.subTest(reply=reply):
                with self.assertRaises(BadReply) as caught:
                    spoiler(reply)
                self.assertIs(caught.exception.at, reply)
                self.assertEqual((spoiler.stand, spoiler.stretch, spoiler.won), ((0, 0), [A], False))
        spoiler(4)
        for reply in (0, 3, 4):
            with self.assertRaises(BadReply):
                spoiler(reply)
        self.assertEqual((spoiler.stand, spoiler.stretch, spoiler.won), ((1, 4), [back(0)], True))

    def test_true_is_no_reply(self):
        spoiler = Game(Web([[(A, 1)], [(B, 0)]]), Web([[(A, 1)], []])).spoiler()
        with self.assertRaises(BadReply):
            spoiler(True)
        self.assertEqual(spoiler(1), [B])

    def test_stretches_are_new_lists(self):
        spoiler = Game(LATE, EARLY).spoiler()
        spoiler.stretch.append(B)
        spoiler(3).append(B)
        self.assertEqual(spoiler.stretch, [back(1)])

    def test_spoilers_do_not_share_their_play(self):
        game = Game(LATE, EARLY)
        first, second = game.spoiler(), game.spoiler()
        first(3)
        self.assertEqual((second.stand, second.won), ((0, 0), False))

    def check_play(self, rows, high_rows, spoiler):
        """The pairs to which the stretch leads, in which just the last deed is visible."""
        pair, stretch = spoiler.stand, spoiler.stretch
        self.assertTrue(visible(stretch[-1]))
        self.assertFalse(any(visible(deed) for deed in stretch[:-1]))
        for deed in stretch[:-1]:
            pair = (dict(rows[pair[0]])[deed], pair[1])
        led = led_to(rows, high_rows, pair, (stretch[-1], dict(rows[pair[0]])[stretch[-1]]))
        self.assertIs(spoiler.won, not led)
        return led

    def test_every_play_is_won(self):
        plays = 0
        for seed in range(0, 1500):
            low, high = sample_pair(seed)
            game = Game(low, high)
            if game.word() == "at once":
                continue
            rows, high_rows, rounds = moves_of(low), moves_of(high), game.rounds()
            waiting = [[]]
            while waiting and plays < 20000:
                plays += 1
                replies = waiting.pop()
                spoiler = game.spoiler()
                for reply in replies:
                    stand = spoiler.stand
                    told = spoiler(reply)
                    self.assertEqual(told, spoiler.stretch)
                    self.assertLess(rounds[spoiler.stand], rounds[stand])
                    self.assertGreater(rounds[spoiler.stand], 0)
                    self.assertEqual(spoiler.stand[1], reply)
                led = self.check_play(rows, high_rows, spoiler)
                waiting += [replies + [reply] for _, reply in led]
        self.assertGreater(plays, 500)

    def test_a_long_play(self):
        spoiler = Game(row_of(2000, A), row_of(1999, A)).spoiler()
        for reply in range(1, 1999):
            self.assertFalse(spoiler.won)
            self.assertEqual(spoiler(reply), [A])
        self.assertTrue(spoiler.won)
        low = Web([[(S, at + 1)] if at < 3999 else [(A, 0)] for at in range(4000)])
        spoiler = Game(low, Web([[]])).spoiler()
        self.assertEqual((spoiler.stretch, spoiler.won), ([S] * 3999 + [A], True))


class FactsTest(unittest.TestCase):
    def test_at_once_gives_every_history(self):
        done = 0
        for seed in range(500):
            low, high = random_web(seed, chance=0.25), random_web(seed + 400, chance=0.5)
            if Game(low, high).word() == "at once":
                done += 1
                self.assertTrue(all(history in high for history in low.histories(3)))
        self.assertGreater(done, 50)

    def test_a_web_answers_itself_at_once(self):
        for seed in range(100):
            web = random_web(seed)
            self.assertEqual(Game(web, web).word(), "at once")

    def test_words_put_together(self):
        for seed in range(600):
            a, b, c = [random_web(seed * 3 + part, most=3, chance=0.4) for part in range(3)]
            words = [Game(a, b).word(), Game(b, c).word(), Game(a, c).word()]
            if words[:2] == ["at once", "at once"]:
                self.assertEqual(words[2], "at once")
            if words[2] == "never":
                self.assertIn("never", words[:2])


if __name__ == "__main__":
    unittest.main()
