import itertools
import random
import time
import unittest

from coretower.clients import always
from coretower.errors import BadTrace, NoOperation
from coretower.plain import plain_web
from coretower.shapes import Latch, Meter, Ticket, table_of
from coretower.tables import Table
from coretower.traces import answers, breaks, order_of, orders_of, part
from tests.samples import back, call, step

TICKET = table_of(Ticket(3))
OVERLAP = [call("up"), call("up", 1), back(1), back(0, 1)]


def calls_of(trace):
    """The calls of a trace by their names (caller, number): operation, answer or None, places of call and return."""
    calls, counts = {}, {}
    for at, (caller, word, what) in enumerate(trace):
        if word == "call":
            counts[caller] = counts.get(caller, -1) + 1
            calls[caller, counts[caller]] = [what, None, at, None]
        else:
            calls[caller, counts[caller]][1:4:2] = [what, at]
    return calls


def is_order(table, trace, row):
    """Point 42, word by word."""
    calls = calls_of(trace)
    done = [name for name in calls if calls[name][3] is not None]
    if len(set(row)) != len(row) or not set(done) <= set(row) <= set(calls):
        return False
    for x, y in itertools.permutations(calls, 2):
        if y in row and calls[x][3] is not None and calls[x][3] < calls[y][2] and row.index(x) > row.index(y):
            return False
    told = table.answers([calls[name][0] for name in row])
    return all(calls[name][1] in (None, answer) for name, answer in zip(row, told))


def plain_orders(table, trace):
    """All orders, the shorter ones first, then ascending."""
    names = sorted(calls_of(trace))
    rows = [list(row) for many in range(len(names) + 1) for row in itertools.permutations(names, many)]
    return [row for row in rows if is_order(table, trace, row)]


def random_table(seed, operations=("p", "q"), size=3, most=3):
    source = random.Random(seed)
    rows = {name: [(source.randrange(most), source.randrange(size)) for _ in range(size)] for name in operations}
    return Table(rows, source.randrange(size))


def random_trace(seed, table, length, callers=3, wrong=0.2):
    """Mostly what the table can have answered, some answers wrong."""
    source = random.Random(seed)
    state, calls, trace = table.first, {}, []
    while len(trace) < length:
        caller = source.randrange(callers)
        if caller not in calls:
            calls[caller] = [source.choice(table.names()), None]
            trace.append(call(calls[caller][0], caller))
        elif calls[caller][1] is None:
            calls[caller][1], state = table(calls[caller][0], state)
        else:
            answer = calls.pop(caller)[1]
            trace.append(back(source.randrange(4) if source.random() < wrong else answer, caller))
    return trace


class OrdersTest(unittest.TestCase):
    def test_an_overlap(self):
        self.assertEqual(order_of(TICKET, OVERLAP), [(1, 0), (0, 0)])
        self.assertEqual(list(orders_of(TICKET, OVERLAP)), [[(1, 0), (0, 0)]])

    def test_no_deeds(self):
        self.assertEqual(order_of(TICKET, []), [])
        self.assertEqual(list(orders_of(TICKET, [])), [[]])
        self.assertIsNone(breaks(TICKET, []))
        self.assertEqual(answers(TICKET, [], 0), [])

    def test_open_calls_may_stand_in_an_order(self):
        trace = [call("up"), call("look", 1), call("look", 2)]
        self.assertEqual(list(orders_of(TICKET, trace))[:5], [[], [(0, 0)], [(1, 0)], [(2, 0)], [(0, 0), (1, 0)]])
        self.assertEqual(len(list(orders_of(TICKET, trace))), 1 + 3 + 6 + 6)
        trace = [call("up"), call("look", 1), back(1, 1)]
        self.assertEqual(list(orders_of(TICKET, trace)), [[(0, 0), (1, 0)]])

    def test_a_call_behind_a_return_stands_behind_it(self):
        trace = [call("up"), back(0), call("look", 1), back(0, 1)]
        self.assertIsNone(order_of(TICKET, trace))
        self.assertEqual(breaks(TICKET, trace), 3)
        self.assertEqual(order_of(TICKET, [trace[0], trace[2], trace[1], trace[3]]), [(1, 0), (0, 0)])

    def test_all_orders_of_short_traces(self):
        fitting = 0
        for seed in range(300):
            table = random_table(seed)
            trace = random_trace(seed, table, 3 + seed % 6)
            plain = plain_orders(table, trace)
            self.assertEqual(list(orders_of(table, trace)), plain, trace)
            found = order_of(table, trace)
            self.assertEqual(found is not None, bool(plain))
            if plain:
                fitting += 1
                self.assertIn(found, plain)
        self.assertTrue(100 < fitting < 280)

    def test_orders_are_new_lists(self):
        for order in orders_of(TICKET, [call("up"), call("look", 1)]):
            order.append(None)
        self.assertEqual(len(list(orders_of(TICKET, [call("up"), call("look", 1)]))), 5)

    def test_orders_come_one_by_one(self):
        trace = [call("look", caller) for caller in (0, 1, 2)] + [back(0, caller) for caller in (0, 1, 2)]
        orders = orders_of(TICKET, trace * 4)
        self.assertEqual(next(orders)[:4], [(0, 0), (1, 0), (2, 0), (0, 1)])
        self.assertEqual(len(list(orders)), 6 ** 4 - 1)


class BreaksTest(unittest.TestCase):
    def test_the_first_deed_with_which_a_trace_does_not_fit(self):
        seen = set()
        for seed in range(300):
            table = random_table(seed)
            trace = random_trace(seed, table, 4 + seed % 9, wrong=0.1)
            told = breaks(table, trace)
            fits = [order_of(table, trace[:most]) is not None for most in range(len(trace) + 1)]
            self.assertEqual(fits, [told is None or most <= told for most in range(len(trace) + 1)])
            seen.add(told)
        self.assertGreater(len(seen), 7)

    def test_no_call_breaks_a_trace(self):
        self.assertIsNone(breaks(TICKET, [call("up"), call("up", 1), call("look", 2)]))
        self.assertEqual(breaks(TICKET, [call("up"), back(2), call("up", 1)]), 1)


class AnswersTest(unittest.TestCase):
    def test_the_numbers_that_a_call_can_return(self):
        trace = [call("up"), call("up", 1), call("look", 2)]
        self.assertEqual([answers(TICKET, trace, caller) for caller in (0, 1, 2)], [[0, 1], [0, 1], [0, 1, 2]])
        self.assertEqual(answers(TICKET, trace + [back(1, 2)], 0), [0, 1])
        self.assertEqual(answers(TICKET, trace + [back(2, 2), back(0)], 1), [1])

    def test_no_open_call(self):
        self.assertEqual(answers(TICKET, [call("up"), back(0)], 0), [])
        self.assertEqual(answers(TICKET, [call("up")], 1), [])
        self.assertEqual(answers(TICKET, [call("up")], 3), [])

    def test_a_trace_that_does_not_fit(self):
        self.assertEqual(answers(TICKET, [call("up"), back(2), call("up")], 0), [])

    def test_each_number_tried(self):
        for seed in range(200):
            table = random_table(seed, size=4, most=4)
            trace = random_trace(seed, table, 3 + seed % 8, wrong=0.05)
            calls = calls_of(trace)
            for caller in (0, 1, 2):
                opened = [name for name in calls if name[0] == caller and calls[name][3] is None]
                fitting = [number for number in range(10)
                           if opened and order_of(table, trace + [back(number, caller)]) is not None]
                self.assertEqual(answers(table, trace, caller), fitting)

    def test_the_longer_trace_may_have_more_than_24_deeds(self):
        trace = [deed for _ in range(11) for deed in (call("look"), back(0))] + [call("up", 1), call("look")]
        self.assertEqual(len(trace), 24)
        self.assertEqual(answers(TICKET, trace, 0), [0, 1])


class RefusalsTest(unittest.TestCase):
    def looks(self, trace):
        return [lambda: order_of(TICKET, trace), lambda: list(orders_of(TICKET, trace)), lambda: breaks(TICKET, trace),
                lambda: answers(TICKET, trace, 0)]

    def refused(self, trace, error, worth):
        for look in self.looks(trace):
            with self.assertRaises(error) as caught:
                look()
            self.assertEqual(list(vars(caught.exception).values()), [worth])

    def test_what_is_no_visible_deed(self):
        for deed in (step(), (0, "call", "up", 1), (0, "call"), [0, "call", "up"], None, 7, "call", (3, "call", "up"),
                     (True, "call", "up"), (0, "call", "Up"), (0, "call", ""), (0, "call", 1), (0, "return", "up"),
                     (0, "return", 10), (0, "return", True), (0, "answer", 1), (-1, "call", "up"), (0, None, "up")):
            self.refused([call("look", 1), deed], BadTrace, 1)
            self.refused([deed, None], BadTrace, 0)

    def test_out_of_turn(self):
        self.refused([back(0)], BadTrace, 0)
        self.refused([call("up"), back(0, 1)], BadTrace, 1)
        self.refused([call("up"), call("up")], BadTrace, 1)
        self.refused([call("up"), back(0), back(0)], BadTrace, 2)

    def test_more_than_24_deeds(self):
        long = [call("up"), back(0)] * 12
        self.assertEqual(breaks(TICKET, long), 3)
        for more in ([call("up")], [call("odd")], [call("up"), back(0)] * 3):
            self.refused(long + more, BadTrace, 24)
        self.refused(long + [call("up"), back(0), back(0)], BadTrace, 26)
        self.refused([call("odd"), back(0)] * 13, BadTrace, 24)

    def test_unknown_operations(self):
        self.refused([call("up"), call("odd", 1), call("even", 2)], NoOperation, "odd")
        self.refused([call("odd"), call("even", 1), step()], BadTrace, 2)


class PartTest(unittest.TestCase):
    def test_the_deeds_of_the_calls_of_some_operations(self):
        trace = [call("up"), call("look", 1), back(0), back(0, 1), call("look"), call("up", 1), back(1)]
        self.assertEqual(part(trace, ["up"]), [call("up"), back(0), call("up", 1)])
        self.assertEqual(part(trace, ["look"]), [call("look", 1), back(0, 1), call("look"), back(1)])
        self.assertEqual(part(trace, ["look", "up", "odd"]), trace)
        self.assertEqual(part(trace, []), [])
        self.assertEqual(part(trace * 9, ["up", "look"]), trace * 9)


class FactsTest(unittest.TestCase):
    def test_histories_of_the_plain_web(self):
        fitting = 0
        for seed in range(40):
            table = random_table(seed, size=3)
            web = plain_web(table, [always("p", "q")] * (1 + seed % 3))
            for more in range(8):
                trace = random_trace(seed * 100 + more, table, 3 + more, callers=1 + seed % 3)
                fits = order_of(table, trace) is not None
                fitting += fits
                self.assertEqual(trace in web, fits)
                self.assertEqual(web.lacks(trace), breaks(table, trace))
        self.assertTrue(100 < fitting < 300)

    def test_all_histories_fit(self):
        table = table_of(Latch(2))
        web = plain_web(table, [always("top", "clear")] * 2)
        for history in web.histories(5):
            self.assertIsNone(breaks(table, history))

    def test_tables_side_by_side(self):
        words = set()
        for seed in range(150):
            a, b = random_table(seed, ("p", "q"), 2), random_table(seed + 1, ("r", "s"), 3)
            trace = random_trace(seed, a + b, 8, wrong=0.15)
            fits = [breaks(table, part(trace, table.names())) is None for table in (a, b)]
            self.assertEqual(breaks(a + b, trace) is None, all(fits))
            words.add(tuple(fits))
        self.assertEqual(len(words), 4)


class SpeedTest(unittest.TestCase):
    def test_long_traces(self):
        begun = time.process_time()
        for seed in range(30):
            table = table_of(Meter(9)) if seed % 2 else random_table(seed, "abcdef", 100, 2)
            trace = random_trace(seed, table, 24, wrong=0.1 if seed % 3 else 0)
            broken = breaks(table, trace)
            self.assertEqual(order_of(table, trace) is None, broken is not None)
            answers(table, trace, 0)
        self.assertLess(time.process_time() - begun, 3)

    def test_a_trace_that_fits_nearly(self):
        """All calls overlap three by three, and what the last one tells is wrong."""
        table = Table({"up": [(0, (state + 1) % 100) for state in range(100)],
                       "top": [(int(state == 55), (state * 7 + 1) % 100) for state in range(100)]})
        trace = []
        for number in range(4):
            trace += [call("up" if (caller + number) % 2 else "top", caller) for caller in (0, 1, 2)]
            trace += [back(0, caller) for caller in (0, 1, 2)]
        trace[-1] = back(9, 2)
        begun = time.process_time()
        self.assertIsNone(order_of(table, trace))
        self.assertEqual(breaks(table, trace), 23)
        self.assertEqual(list(orders_of(table, trace)), [])
        self.assertLess(time.process_time() - begun, 1)


if __name__ == "__main__":
    unittest.main()
