import itertools
import random
import unittest

from coretower.builds import Build, Operation
from coretower.choosers import Chooser, lets, parting_row
from coretower.clients import always, once
from coretower.errors import BadChooser, BadNumber, BadSetting, TooLarge
from coretower.spaces import Space
from tests.made import random_chooser
from tests.samples import back, call, step

NOTHING = ("give", (0,), None)
BOTH = (((0, 1),), (0, 0))


def ables(callers):
    return sorted(able for many in range(1, callers + 1) for able in itertools.combinations(range(callers), many))


def rows_of(callers, length):
    """All rows of this length, ascending."""
    letters = sorted((able, caller) for able in ables(callers) for caller in able)
    return [list(row) for row in itertools.product(letters, repeat=length)]


def plain_lets(chooser, row):
    """Point 38, word by word."""
    state = 0
    for able, caller in row:
        groups, goals = chooser.states()[state]
        group = [group for group in groups if set(group) & set(able)][0]
        if caller not in group or caller not in able:
            return False
        state = goals[caller]
    return True


class ChooserTest(unittest.TestCase):
    def setUp(self):
        self.states = [(((2, 0), (1,)), (1, 0, 1)), (((1,), (0, 2)), (0, 0, 1))]
        self.chooser = Chooser(3, self.states)

    def test_fields_and_states(self):
        self.assertEqual((self.chooser.callers, len(self.chooser)), (3, 2))
        self.assertEqual(self.chooser.states(), self.states)
        self.assertIsNot(self.chooser.states(), self.chooser.states())

    def test_lists_are_copied(self):
        self.states.append("x")
        self.chooser.states().clear()
        self.assertEqual(len(self.chooser), 2)
        self.assertEqual(len(self.chooser.states()), 2)

    def test_who_is_let_by(self):
        cases = {(0,): (0,), (1,): (1,), (2,): (2,), (0, 1): (0,), (0, 2): (0, 2), (1, 2): (2,), (0, 1, 2): (0, 2)}
        for able, chosen in cases.items():
            self.assertEqual(self.chooser(0, able), chosen)
        cases = {(0,): (0,), (0, 1): (1,), (0, 2): (0, 2), (1, 2): (1,), (0, 1, 2): (1,)}
        for able, chosen in cases.items():
            self.assertEqual(self.chooser(1, able), chosen)

    def test_after(self):
        self.assertEqual([self.chooser.after(state, caller) for state in (0, 1) for caller in (0, 1, 2)],
                         [1, 0, 1, 0, 0, 1])

    def test_unknown_states(self):
        for state in (2, -1, True, None, "0", (0,), [0]):
            for look in (lambda: self.chooser(state, (0,)), lambda: self.chooser.after(state, 0)):
                with self.assertRaises(BadChooser) as caught:
                    look()
                self.assertIs(caught.exception.state, state)

    def test_wrong_numbers_of_callers(self):
        for callers in (0, 4, -1, True, None, "2", (1,)):
            for make in (lambda: Chooser(callers, []), lambda: Chooser.free(callers), lambda: Chooser.ranked(callers),
                         lambda: Chooser.rotating(callers)):
                with self.assertRaises(BadNumber) as caught:
                    make()
                self.assertIs(caught.exception.number, callers)

    def test_numbers_of_states(self):
        for states in ([], [BOTH] * 13, ["x"] * 13):
            with self.assertRaises(TooLarge) as caught:
                Chooser(2, states)
            self.assertEqual(caught.exception.bound, 12)
        self.assertEqual(len(Chooser(2, [BOTH] * 12)), 12)
        self.assertEqual(len(Chooser(2, [BOTH])), 1)

    def test_wrong_states(self):
        goals = (0, 1)
        wrong = [
            None, 7, "ab", (), (((0, 1),),), (((0, 1),), goals, 0), [((0, 1),), goals],
            ([(0, 1)], goals), (((0, 1),), [0, 1]), ((0, 1), goals), (([0, 1],), goals), ("01", goals), (None, goals),
            (((0, 1), ()), goals), (((), (0, 1)), goals), ((), goals), (((0,),), goals), (((0,), (0, 1)), goals),
            (((0, 0, 1),), goals), (((0, 1, 2),), goals), (((0,), (2,)), goals), (((0, True),), goals),
            (((False, 1),), goals), (((0, "1"),), goals), (((0, None),), goals), (((0, -1),), goals), (((0, 1.0),), goals),
            (((0, (1,)),), goals), (((0, 1),), (0,)), (((0, 1),), (0, 1, 0)), (((0, 1),), (0, 9)), (((0, 1),), (0, -1)),
            (((0, 1),), (0, True)), (((0, 1),), (0, None)), (((0, 1),), (0, "1")), (((0, 1),), ()), (((0, 1),), None),
        ]
        for state in wrong:
            for at in (0, 1, 2):
                states = [(((1,), (0,)), (2, 0)), BOTH]
                states.insert(at, state)
                with self.assertRaises(BadChooser, msg=repr(state)) as caught:
                    Chooser(2, states + ([None] if at else []))
                self.assertEqual(caught.exception.state, at)

    def test_order_of_refusals(self):
        with self.assertRaises(BadNumber):
            Chooser(5, [None] * 20)
        with self.assertRaises(TooLarge):
            Chooser(2, [None] * 20)
        with self.assertRaises(BadChooser) as caught:
            Chooser(2, [BOTH, (((0, 1),), (0, 2)), None][:2])
        self.assertEqual(caught.exception.state, 1)


class ReadyMadeTest(unittest.TestCase):
    def test_free(self):
        self.assertEqual([Chooser.free(callers).states() for callers in (1, 2, 3)], [
            [(((0,),), (0,))], [(((0, 1),), (0, 0))], [(((0, 1, 2),), (0, 0, 0))]])

    def test_ranked(self):
        self.assertEqual([Chooser.ranked(callers).states() for callers in (1, 2, 3)], [
            [(((0,),), (0,))], [(((0,), (1,)), (0, 0))], [(((0,), (1,), (2,)), (0, 0, 0))]])

    def test_rotating(self):
        self.assertEqual([Chooser.rotating(callers).states() for callers in (1, 2)], [
            [(((0,),), (0,))], [(((0,), (1,)), (1, 0)), (((1,), (0,)), (1, 0))]])
        self.assertEqual(Chooser.rotating(3).states(), [
            (((0,), (1,), (2,)), (1, 2, 0)), (((1,), (2,), (0,)), (1, 2, 0)), (((2,), (0,), (1,)), (1, 2, 0))])

    def test_fields(self):
        for callers in (1, 2, 3):
            for chooser in (Chooser.free(callers), Chooser.ranked(callers), Chooser.rotating(callers)):
                self.assertEqual(chooser.callers, callers)


class RowsTest(unittest.TestCase):
    def test_lets(self):
        rotating = Chooser.rotating(2)
        self.assertIs(lets(rotating, []), True)
        self.assertIs(lets(rotating, [((0, 1), 0), ((0, 1), 1), ((0,), 0), ((0, 1), 1)]), True)
        self.assertIs(lets(rotating, [((0, 1), 0), ((0, 1), 0)]), False)
        self.assertIs(lets(rotating, [((0, 1), 1)]), False)
        self.assertIs(lets(rotating, [((1,), 0)]), False)
        for seed in range(20):
            chooser = random_chooser(random.Random(seed), 2)
            for row in rows_of(2, 3):
                self.assertEqual(lets(chooser, row), plain_lets(chooser, row))

    def test_parting_rows(self):
        free, ranked, rotating = Chooser.free(2), Chooser.ranked(2), Chooser.rotating(2)
        self.assertEqual(parting_row(free, ranked), [((0, 1), 1)])
        self.assertIsNone(parting_row(ranked, free))
        self.assertIsNone(parting_row(rotating, free))
        self.assertEqual(parting_row(ranked, rotating), [((0,), 0), ((0, 1), 0)])
        self.assertEqual(parting_row(rotating, ranked), [((0,), 0), ((0, 1), 1)])

    def test_the_least_of_the_shortest_rows(self):
        found = 0
        for callers, longest, seeds in [(1, 3, 6), (2, 3, 60), (3, 2, 40)]:
            for seed in range(seeds):
                source = random.Random(seed)
                a, b = random_chooser(source, callers), random_chooser(source, callers)
                rows = [row for length in range(longest + 1) for row in rows_of(callers, length)]
                parting = [row for row in rows if plain_lets(a, row) and not plain_lets(b, row)]
                told = parting_row(a, b)
                if parting:
                    found += 1
                    self.assertEqual(told, parting[0])
                elif told is not None:
                    self.assertGreater(len(told), longest)
                    self.assertTrue(plain_lets(a, told) and not plain_lets(b, told) and plain_lets(b, told[:-1]))
        self.assertGreater(found, 50)

    def test_long_parting_rows(self):
        late = [(((0, 1),), (state + 1, 0)) for state in range(11)] + [(((0,), (1,)), (0, 0))]
        row = parting_row(Chooser.free(2), Chooser(2, late))
        self.assertEqual(row, [((0,), 0)] * 11 + [((0, 1), 1)])
        self.assertIsNone(parting_row(Chooser(2, late), Chooser.free(2)))

    def test_numbers_that_differ(self):
        for a, b in [(1, 2), (2, 1), (3, 2)]:
            with self.assertRaises(BadNumber) as caught:
                parting_row(Chooser.free(a), Chooser.ranked(b))
            self.assertEqual(caught.exception.number, b)


class SpacesTest(unittest.TestCase):
    def setUp(self):
        get = Operation("get", [("read", "a", "x", None), ("give", ("a",), None)])
        self.build = Build(2, {"x": 0}, [get, Operation("nop", [NOTHING])])

    def test_rows_of_runs_are_let_by(self):
        """What can be done under a chooser is what it lets by of what can be done without one."""
        for seed in range(30):
            chooser = random_chooser(random.Random(seed), 2)
            client = [once("get"), once("get", "nop")]
            free, held = Space(self.build, client), Space(self.build, client, chooser=chooser)
            for run in self.runs(free, 7):
                row = [(self.able(free, run[:at]), deed[0]) for at, deed in enumerate(run)]
                try:
                    held.web.go(run)
                    made = True
                except ValueError:
                    made = False
                self.assertEqual(made, plain_lets(chooser, row))

    def runs(self, space, most):
        level = [[]]
        for _ in range(most):
            level = [run + [deed] for run in level for deed, _ in space.web.moves(space.web.go(run))]
            yield from level

    def able(self, space, run):
        return tuple(sorted({deed[0] for deed, _ in space.web.moves(space.web.go(run))}))

    def test_the_state_is_a_part_of_a_standing(self):
        goals = Chooser(2, [(((0, 1),), (1, 0)), (((0, 1),), (1, 0))])
        space = Space(self.build, [always("nop"), always("nop")], chooser=goals)
        self.assertNotEqual(space.web.go([call("nop"), back(0)]), space.web.go([call("nop", 1), back(0, 1)]))
        free = Space(self.build, [always("nop"), always("nop")], chooser=Chooser.free(2))
        self.assertEqual(len(free.web), 4)
        self.assertEqual(len(space.web), 8)

    def test_rotating_lets_all_by_in_turn(self):
        space = Space(self.build, [always("get")] * 3, chooser=Chooser.rotating(3))
        at = 0
        for number in range(12):
            moves = space.web.moves(at)
            self.assertEqual([deed[0] for deed, _ in moves], [number % 3])
            at = moves[0][1]

    def test_ranked_lets_a_lower_caller_go_ahead(self):
        space = Space(self.build, [once("get"), once("get")], chooser=Chooser.ranked(2))
        run = [call("get"), step(), back(0), call("get", 1), step(0, 1), back(0, 1)]
        self.assertEqual(list(space.web.histories(6))[-1], [deed for deed in run if deed[1] != "step"])
        self.assertEqual(len(space.web), 7)

    def test_callers_that_do_not_agree(self):
        for callers in (1, 3):
            with self.assertRaises(BadSetting) as caught:
                Space(self.build, [once("get"), once("get")], chooser=Chooser.free(callers))
            self.assertEqual(caught.exception.setting, "chooser")


if __name__ == "__main__":
    unittest.main()
