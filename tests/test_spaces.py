import unittest

from coretower.books import PAIRS, Book, Pairs
from coretower.builds import Build, Operation
from coretower.choosers import Chooser
from coretower.clients import always, once
from coretower.errors import BadClient, BadNumber, BadPool, BadSetting, NoFence, NoOperation, NoStanding, TooLarge
from coretower.papers import lockstep
from coretower.pools import Pool
from coretower.recipes import Recipe
from coretower.spaces import Space, dirty_run
from tests.machines import PlainMachine, TooMany
from tests.made import random_build, random_row_build, random_settings
from tests.samples import back, call, moves_of, step

NOTHING = ("give", (0,), None)
COUNT = Operation("count", [("read", "a", "x", None), ("write", "x", ("a", 1), None), ("give", ("a",), None)])
GET = Operation("get", [("read", "a", "x", None), ("give", ("a",), None)])
SAFE = Operation("safe", [("lock", "m"), ("read", "a", "x", None), ("write", "x", ("a", 1), None), ("free", "m"),
                          ("give", ("a",), None)])


def build_of(*operations, base=3, cells=None, **more):
    return Build(base, {"x": 0, "y": 0, "z": 0} if cells is None else cells, list(operations), **more)


def linked_build(*operations, limit=1, cells=None):
    return Build(3, {"x": 0, "top": 0} if cells is None else cells, list(operations), fields=("val", "next"),
                 links=("top", "next", "p", "q"), limit=limit)


def op(name, *steps, **more):
    return Operation(name, list(steps), **more)


def write(cell, number, guard=None):
    return ("write", cell, (number,), guard)


def read(local, cell, guard=None):
    return ("read", local, cell, guard)


def give(local, guard=None):
    return ("give", (local,), guard)


def recipe_of(source, target, rows=()):
    recipe = Recipe(source, target)
    for name, row in dict(rows).items():
        recipe[name] = row
    return recipe


def histories(space, most=6):
    return list(space.web.histories(most))


def ends(space):
    """The tuples of the answers, caller by caller, of all runs in which all calls return."""
    found = set()
    for history in space.web.histories(6):
        answers = {deed[0]: deed[2] for deed in history if deed[1] == "return"}
        if len(answers) == 2:
            found.add((answers[0], answers[1]))
    return sorted(found)


def steps_at(space, at):
    """The numbers of the entries that are not held back."""
    return [deed[2] for deed, _ in space.web.moves(at) if deed[1] == "step"]


def along(space, run):
    """What is pending of caller 0 behind each deed of a run."""
    return [space.pending(space.web.go(run[:most]), 0) for most in range(1, len(run) + 1)]


class AgainstTheDocumentTest(unittest.TestCase):
    """Machines at random, compared with the plainest ones of tests/machines.py."""

    def compare(self, seed, **more):
        extra = ("soft",) if seed % 3 == 0 else ()
        build = random_build(seed, fences=("full",) + extra, **more)
        return self.compare_build(seed, build, extra)

    def compare_build(self, seed, build, extra=()):
        client, settings = random_settings(seed, build, extra)
        plain = PlainMachine(build, client, **settings)
        try:
            rows, standings = plain.web(100)
        except TooMany:
            return 0
        space = Space(build, client, **settings)
        self.assertEqual(moves_of(space.web), rows)
        for at, standing in enumerate(standings):
            self.look(space, at, plain, standing)
        return 1

    def look(self, space, at, plain, standing):
        build = plain.build
        self.assertEqual(list(space.memory(at).items()), [
            (name, standing["cells"][name]) for name in build.cells() if name not in build.links()])
        self.assertEqual(list(space.holders(at).items()), [
            (name, standing["locks"][name]) for name in build.locks() if name in standing["locks"]])
        self.assertEqual(space.out(at), plain.out(standing))
        self.assertIs(space.dirty(at), bool(set(plain.eligible(standing)) & plain.found(standing)))
        for number, caller in enumerate(standing["callers"]):
            name = None if caller["call"] is None else caller["call"]["name"]
            self.assertEqual(space.called(at, number), "" if plain.ready(number, standing) else name)
            self.assertEqual(space.pending(at, number), [
                (entry["kind"], entry["place"], plain.ahead(caller, entry)) for entry in plain.pending(caller)])
            self.assertEqual(space.behind(at, number), plain.behind(caller))

    def test_cells_and_locks(self):
        done = sum(self.compare(seed, linked=False, locks=0.6) for seed in range(120))
        self.assertGreater(done, 90)

    def test_nodes(self):
        done = sum(self.compare(seed, linked=True) for seed in range(200, 320))
        self.assertGreater(done, 90)

    def test_rows_of_nodes(self):
        done = sum(self.compare_build(seed, random_row_build(seed)) for seed in range(600, 720))
        self.assertGreater(done, 40)


class FactsTest(unittest.TestCase):
    """The facts of points 24 and 37."""

    def small(self, seeds, **more):
        for seed in seeds:
            build = random_build(seed, **more)
            client, _ = random_settings(seed, build)
            try:
                yield build, client, Space(build, client)
            except TooLarge:
                continue

    def test_runs_in_order_are_runs_by_every_book(self):
        for seed, (build, client, ordered) in enumerate(self.small(range(400, 430))):
            for book in (Book.buffered(), Book.loose(), Book(Pairs())):
                try:
                    space = Space(build, client, book=book, window=2 + seed % 2)
                except TooLarge:
                    continue
                self.assertIsNotNone(lockstep(ordered.web, space.web))

    def test_a_book_that_keeps_all_pairs_has_no_other_runs(self):
        for seed, (build, client, ordered) in enumerate(self.small(range(400, 430))):
            strict = Space(build, client, book=Book.strict(), window=2 + seed % 2)
            for low, high in [(ordered, strict), (strict, ordered)]:
                self.assertEqual(sorted(histories(low, 4)), sorted(histories(high, 4)))
                self.assertIsNotNone(lockstep(low.web, high.web))

    def test_unheld_pools_are_never_dirty_and_others_differ_only_when_dirty(self):
        for seed, (build, client, ordered) in enumerate(self.small(range(500, 530), linked=True)):
            for rule in ("last", "first", "quiet", "unheld"):
                try:
                    space = Space(build, client, pool=Pool(rule, max(1, build.limit)))
                except TooLarge:
                    continue
                if rule == "unheld":
                    self.assertIsNone(dirty_run(space))
                if dirty_run(space) is None:
                    self.assertIsNotNone(lockstep(space.web, ordered.web))


class InOrderTest(unittest.TestCase):
    def test_one_call(self):
        space = Space(build_of(COUNT, base=2), [once("count", "count")])
        first, second = call("count"), step()
        self.assertEqual(moves_of(space.web), [
            [(first, 1)], [(second, 2)], [(second, 3)], [(back(0), 4)], [(first, 5)], [(second, 6)], [(second, 7)],
            [(back(1), 8)], []])
        self.assertEqual(space.memory(0), {"x": 0, "y": 0, "z": 0})
        self.assertEqual([space.memory(at)["x"] for at in range(9)], [0, 0, 0, 1, 1, 1, 1, 0, 0])
        self.assertEqual([space.called(at, 0) for at in range(5)], [None, "count", "", "", None])
        self.assertEqual([space.pending(at, 0) for at in range(4)], [
            [], [("read", "x", ())], [("write", "x", ())], []])

    def test_an_answer_does_not_wait_for_a_write_but_the_return_does(self):
        space = Space(build_of(op("put", write("x", 1), give(2))), [once("put")])
        self.assertEqual(moves_of(space.web), [[(call("put"), 1)], [(step(), 2)], [(back(2), 3)], []])
        self.assertEqual([space.called(at, 0) for at in range(4)], [None, "", "", None])

    def test_overlapping_calls_lose_a_count_and_locks_keep_it(self):
        client = [once("count"), once("count")]
        self.assertEqual(ends(Space(build_of(COUNT), client)), [(0, 0), (0, 1), (1, 0)])
        self.assertEqual(ends(Space(build_of(SAFE), [once("safe")] * 2)), [(0, 1), (1, 0)])

    def test_holders(self):
        space = Space(build_of(op("f", ("lock", "k"), ("lock", "b"), ("free", "k"), write("x", 1), ("free", "b"))),
                      [once("f"), once("f")])
        run = [call("f", 1), step(0, 1), step(0, 1)]
        at = space.web.go(run)
        self.assertEqual(list(space.holders(at).items()), [("k", 1), ("b", 1)])
        self.assertEqual(space.pending(at, 1), [("free", "k", ())])
        self.assertEqual(space.web.moves(space.web.go(run + [call("f")])), [
            (step(0, 1), space.web.go([call("f", 1), step(0, 1), step(0, 1), call("f"), step(0, 1)]))])
        at = space.web.go(run + [step(0, 1)])
        self.assertEqual(space.holders(at), {"b": 1})
        self.assertEqual(space.pending(at, 1), [("write", "x", ())])

    def test_fences_of_any_name_do_nothing(self):
        steps = [write("x", 1), ("fence", "read", None), ("fence", "return", None), ("fence", "odd", None), write("y", 1)]
        space = Space(build_of(op("f", *steps)), [once("f")])
        self.assertEqual(moves_of(space.web), [[(call("f"), 1)], [(step(), 2)], [(step(), 3)], [(back(0), 4)], []])
        self.assertEqual([space.behind(at, 0) for at in range(5)], [()] * 5)

    def test_turns_and_otherwise(self):
        space = Space(build_of(op("f", write("x", 1), turns=2, otherwise=7)), [once("f")])
        self.assertEqual([space.pending(at, 0) for at in range(6)], [
            [], [("write", "x", ())], [("again", None, ())], [("write", "x", ())], [], []])
        self.assertEqual(space.web.moves(4), [(back(7), 5)])
        space = Space(build_of(op("f", write("x", 1), turns=0, otherwise=7)), [once("f")])
        self.assertEqual(moves_of(space.web), [[(call("f"), 1)], [(step(), 2)], [(step(), 3)], [(step(), 2)]])

    def test_standings_tell_turns_apart_unless_there_is_no_last_one(self):
        steps = [("swap", "a", "x", ("a",), None), ("read", "a", "y", None)]
        self.assertEqual(len(Space(build_of(op("f", *steps, turns=3)), [once("f")]).web), 11)
        self.assertEqual(len(Space(build_of(op("f", *steps, turns=0)), [once("f")]).web), 4)

    def test_locals_stay_when_the_next_turn_begins(self):
        steps = [give("a", ("a", "!", (0,))), ("swap", "a", "x", (2,), None)]
        space = Space(build_of(op("f", *steps, turns=3), cells={"x": 1}), [once("f")])
        self.assertEqual(histories(space), [[], [call("f")], [call("f"), back(1)]])

    def test_an_answer_inside_a_section_frees_what_is_held(self):
        steps = [("lock", "m"), ("lock", "k"), give(1), write("x", 1), ("free", "m"), ("lock", "m"), ("free", "m"),
                 write("x", 2), ("free", "k"), write("x", 2)]
        space = Space(build_of(op("f", *steps)), [once("f")])
        self.assertEqual([space.pending(at, 0) for at in range(6)], [
            [], [("lock", "m", ())], [("lock", "k", ())], [("free", "m", ())], [("free", "k", ())], []])
        self.assertEqual([space.called(at, 0) for at in range(7)], [None, "f", "f", "f", "f", "", None])
        self.assertEqual(space.web.moves(5), [(back(1), 6)])

    def test_swap_and_cas(self):
        steps = [("cas", "a", "x", (0,), (2,), None), ("cas", "b", "x", (0,), (1,), None),
                 ("swap", "c", "x", ("a", 0), None), ("give", ("a", "b", "c"), None)]
        space = Space(build_of(op("f", *steps), base=5, cells={"x": 0}), [once("f")])
        self.assertEqual(space.pending(1, 0), [("both", "x", ())])
        self.assertEqual([space.memory(at)["x"] for at in range(5)], [0, 0, 2, 2, 1])
        self.assertEqual(space.web.moves(4), [(back(3), 5)])

    def test_menus(self):
        build = build_of(op("f", NOTHING), op("g", NOTHING))
        space = Space(build, [((("g", "f"), ("g",)), False)])
        self.assertEqual(histories(space)[1:3], [[call("f")], [call("g")]])
        self.assertEqual(moves_of(space.web)[0], [(call("f"), 1), (call("g"), 1)])
        self.assertEqual(moves_of(space.web)[2:], [[(call("g"), 3)], [(back(0), 4)], []])
        again = Space(build, [((("g", "f"), ("g",)), True)])
        self.assertEqual(moves_of(again.web)[3], [(back(0), 0)])


class JoinedTest(unittest.TestCase):
    def test_sections_are_performed_by_one_deed(self):
        steps = [("lock", "m"), read("a", "x"), write("x", 1), ("lock", "k"), write("y", 1), ("free", "m"),
                 write("z", 1), ("free", "k"), write("z", 2), ("lock", "m"), write("x", 2), write("y", 2), ("free", "m")]
        space = Space(build_of(op("f", *steps)), [once("f")], joined=True)
        self.assertEqual([space.pending(at, 0) for at in range(5)], [
            [], [("read", "x", ())], [("write", "z", ())], [("write", "x", ())], []])
        self.assertEqual(space.memory(2), {"x": 1, "y": 1, "z": 1})
        self.assertEqual([space.holders(at) for at in range(5)], [{}] * 5)

    def test_sections_beside_each_other_and_the_next_turn_are_not_joined(self):
        steps = [("lock", "m"), write("x", 1), ("free", "m"), ("lock", "m"), write("y", 1), write("y", 2), ("free", "m")]
        space = Space(build_of(op("f", *steps, turns=2)), [once("f")], joined=True)
        self.assertEqual([space.pending(at, 0) for at in range(7)], [
            [], [("write", "x", ())], [("write", "y", ())], [("again", None, ())], [("write", "x", ())],
            [("write", "y", ())], []])

    def test_takes_and_drops_inside_a_section_are_joined(self):
        steps = [("lock", "m"), ("take", "p", None), ("write", "top", ("p",), None), ("drop", "p", None), ("free", "m")]
        space = Space(linked_build(op("f", *steps)), [once("f")], joined=True)
        self.assertEqual(moves_of(space.web), [[(call("f"), 1)], [(step(), 2)], [(back(0), 3)], []])

    def test_an_answer_ends_the_joined_stretch(self):
        steps = [("lock", "m"), read("a", "x"), give(1, ("a", "=", (0,))), write("x", 2), ("free", "m")]
        space = Space(build_of(op("f", *steps)), [once("f")], joined=True)
        self.assertEqual(moves_of(space.web), [[(call("f"), 1)], [(step(), 2)], [(back(1), 3)], []])
        self.assertEqual(space.memory(3)["x"], 0)

    def test_entries_of_two_sections_are_told_apart(self):
        steps = [("lock", "m"), write("x", 1, ("a", "=", (0,))), ("free", "m"), write("x", 1, ("a", "=", (1,)))]
        other = [("lock", "m"), ("free", "m"), ("lock", "m"), write("x", 1), ("free", "m")]
        build = build_of(op("f", give(0), *steps), op("g", write("x", 1), give(0)),
                         op("h", ("lock", "m"), write("x", 1), give(0), ("free", "m")),
                         op("i", ("lock", "m"), ("free", "m"), ("lock", "m"), write("x", 1), give(0), ("free", "m")), op(
                             "j", *other[:3], write("x", 1), give(0), ("free", "m")))
        space = Space(build, [((("g", "h", "i", "j"),), False)], joined=True)
        self.assertEqual([goal for _, goal in space.web.moves(0)], [1, 2, 3, 3])
        self.assertEqual(len(Space(build, [((("g", "h", "i", "j"),), False)]).web), 17)


class BooksTest(unittest.TestCase):
    def test_store_buffers(self):
        def pair(*between):
            return build_of(op("f", write("x", 1), *between, read("a", "y"), give("a")),
                            op("g", write("y", 1), *between, read("a", "x"), give("a")))
        client = [once("f"), once("g")]
        ordered = [(0, 1), (1, 0), (1, 1)]
        self.assertEqual(ends(Space(pair(), client)), ordered)
        self.assertEqual(ends(Space(pair(), client, book=Book.strict())), ordered)
        self.assertEqual(ends(Space(pair(), client, book=Book.buffered())), [(0, 0)] + ordered)
        self.assertEqual(ends(Space(pair(("fence", "full", None)), client, book=Book.buffered())), ordered)
        book = Book(Book.buffered().kept, fences={"soft": Pairs([("write", "read")]), "none": Pairs()})
        self.assertEqual(ends(Space(pair(("fence", "soft", None)), client, book=book)), ordered)
        self.assertEqual(ends(Space(pair(("fence", "none", None)), client, book=book)), [(0, 0)] + ordered)

    def test_messages(self):
        def pair(put, get):
            return build_of(op("f", write("x", 1), (put, "y", (1,), None)),
                            op("g", (get, "a", "y", None), read("b", "x"), ("give", ("a", "a", "b"), None)), base=5)
        for put, get, answers in [("write", "read", [0, 1, 2, 3]), ("release", "acquire", [0, 1, 3]),
                                  ("release", "read", [0, 1, 2, 3]), ("write", "acquire", [0, 1, 2, 3])]:
            space = Space(pair(put, get), [once("f"), once("g")], book=Book.loose())
            self.assertEqual(sorted({answer for _, answer in ends(space)}), answers)
        space = Space(pair("write", "read"), [once("f"), once("g")], book=Book.buffered())
        self.assertEqual(sorted({answer for _, answer in ends(space)}), [0, 1, 3])

    def test_the_window(self):
        steps = [write(cell, 1) for cell in "xyzx"]
        for window in (2, 3):
            space = Space(build_of(op("f", *steps)), [once("f")], book=Book(Pairs()), window=window)
            self.assertEqual([entry[:2] for entry in space.pending(1, 0)], [("write", cell) for cell in "xyzx"[:window]])
            self.assertEqual([deed for deed, _ in space.web.moves(1)], [step(at) for at in range(window)])
        space = Space(build_of(op("f", *steps)), [once("f")], window=3)
        self.assertEqual(space.pending(1, 0), [("write", "x", ())])

    def test_entries_at_one_place_stay_in_order(self):
        space = Space(build_of(op("f", write("x", 1), write("x", 2), write("y", 1))), [once("f")], book=Book(Pairs()),
                      window=3)
        self.assertEqual(steps_at(space, 1), [0, 2])

    def test_a_field_of_two_nodes_is_two_places(self):
        steps = [("take", "p", None), ("take", "q", None), ("write", ("val", "p"), (1,), None),
                 ("write", ("val", "q"), (1,), None), ("write", ("val", "p"), (2,), None)]
        space = Space(linked_build(op("f", *steps), limit=2), [once("f")], book=Book(Pairs()), window=3)
        at = space.web.go([call("f"), step(), step()])
        self.assertEqual(steps_at(space, at), [0, 1])
        self.assertEqual(space.pending(at, 0)[0], ("write", "val", ()))

    def test_returns_wait_for_all_but_writes(self):
        for first, word in [(read("a", "x"), "read"), (("swap", "a", "x", (1,), None), "both"), (write("x", 1), None),
                            (("release", "x", (1,), None), None)]:
            space = Space(build_of(op("f", first, give(2))), [once("f")], book=Book(Pairs()))
            self.assertEqual(space.called(1, 0), "")
            self.assertEqual((back(2), 2) in space.web.moves(1), word is None)
        for kept, free in [(Pairs([("write", "return")]), False), (Pairs([("release", "return")]), True)]:
            space = Space(build_of(op("f", write("x", 1), give(2))), [once("f")], book=Book(kept))
            self.assertEqual(space.web.moves(1)[0][0] == back(2), free)

    def test_fences_hold_a_return_back(self):
        book = Book(Pairs(), fences={"soft": Pairs([("write", "return")])})
        space = Space(build_of(op("f", ("release", "x", (1,), None), ("fence", "soft", None), write("y", 1))), [once("f")],
                      book=book)
        self.assertEqual([deed for deed, _ in space.web.moves(space.web.go([call("f"), step(0)]))], [back(0), step(0)])
        for steps, free in [([write("x", 1), ("fence", "soft", None)], False), ([("fence", "soft", None), write("x", 1)], True),
                            ([write("x", 1), ("fence", "soft", None), write("y", 1)], False),
                            ([("release", "x", (1,), None), ("fence", "soft", None)], True),
                            ([("release", "x", (1,), None), ("fence", "soft", None), write("y", 1)], True),
                            ([("release", "x", (1,), None), write("y", 1), ("fence", "soft", None)], False),
                            ([write("x", 1), ("release", "z", (1,), None), ("fence", "soft", None), write("y", 1)], False)]:
            space = Space(build_of(op("f", *steps)), [once("f")], book=book)
            self.assertEqual(space.web.moves(1)[0][0] == back(0), free, steps)

    def test_writes_stay_pending_behind_the_return(self):
        space = Space(build_of(op("f", write("x", 1), write("y", 1)), GET, op("k", ("lock", "m"), ("free", "m"))),
                      [((("f",), ("get", "k")), False)], book=Book.buffered(), window=2)
        at = space.web.go([call("f"), back(0)])
        self.assertEqual([space.called(at, 0), space.pending(at, 0)], [None, [("write", "x", ()), ("write", "y", ())]])
        self.assertEqual([deed for deed, _ in space.web.moves(at)], [call("get"), call("k"), step(0)])
        at = space.web.go([call("f"), back(0), call("get")])
        self.assertEqual(len(space.pending(at, 0)), 2)
        at = space.web.go([call("f"), back(0), call("get"), step(0)])
        self.assertEqual(space.pending(at, 0), [("write", "y", ()), ("read", "x", ())])
        self.assertEqual([deed for deed, _ in space.web.moves(at)], [step(0), step(1)])
        at = space.web.go([call("f"), back(0), call("k"), step(0)])
        self.assertEqual(space.pending(at, 0), [("write", "y", ())])
        at = space.web.go([call("f"), back(0), call("k"), step(0), step(0)])
        self.assertEqual(space.pending(at, 0), [("lock", "m", ())])

    def test_what_waits_for_an_awaited_local(self):
        for waiting in [write("y", "a"), ("read", "b", "y", ("a", "=", (1,))), ("read", "b", "y", ("b", "=", (0, "a"))),
                        read("a", "y"), give("a"), ("fence", "full", ("a", "=", (0,))), ("cas", "b", "y", ("a",), (0,), None),
                        ("cas", "b", "y", (0,), ("b", "a"), None), ("cas", "a", "y", (0,), (0,), None),
                        ("give", (1,), ("a", "!", (0,)))]:
            space = Space(build_of(op("f", read("a", "x"), waiting, write("z", 1))), [once("f")], book=Book(Pairs()),
                          window=3)
            self.assertEqual(space.pending(1, 0), [("read", "x", ())], waiting)
        steps = [read("a", "x"), write("y", 1, ("b", "=", (1,))), write("y", 1), write("z", "b")]
        space = Space(build_of(op("f", *steps)), [once("f")], book=Book(Pairs()), window=3)
        self.assertEqual([entry[1] for entry in space.pending(1, 0)], ["x", "y", "z"])

    def test_an_answer_forgets_awaited_locals(self):
        steps = [read("a", "x"), give(1), write("y", "a")]
        space = Space(build_of(op("f", *steps)), [once("f")], book=Book(Pairs()), window=3)
        self.assertEqual(moves_of(space.web), [[(call("f"), 1)], [(step(), 2)], [(back(1), 3)], []])

    def test_locks_and_takes_wait_for_all_entries(self):
        steps = [write("x", 1), ("take", "p", None), write("x", 2), ("lock", "m"), write("x", 1), ("free", "m"), write("x", 2)]
        space = Space(linked_build(op("f", *steps, turns=2)), [once("f")], book=Book(Pairs()), window=3)
        self.assertEqual([[entry[0] for entry in entries] for entries in along(space, [call("f")] + [step()] * 8)], [
            ["write"], ["take"], ["write"], ["lock"], ["write"], ["free"], ["write"], ["again"], ["write"]])

    def test_fences_between_entries(self):
        book = Book(Pairs(), fences={"soft": Pairs(), "b": Pairs()})
        steps = [("fence", "full", None), write("x", 1), ("fence", "soft", None), ("fence", "b", None), ("fence", "soft", None),
                 write("y", 1), ("fence", "b", None), write("z", 1), ("fence", "full", None), ("fence", "b", ("a", "=", (1,)))]
        space = Space(build_of(op("f", *steps)), [once("f")], book=book, window=3)
        self.assertEqual(space.pending(1, 0), [("write", "x", ()), ("write", "y", ("b", "soft")), ("write", "z", ("b",))])
        self.assertEqual(space.behind(1, 0), ("full",))
        at = space.web.go([call("f"), step(1)])
        self.assertEqual(space.pending(at, 0), [("write", "x", ()), ("write", "z", ("b", "soft"))])
        at = space.web.go([call("f"), step(2)])
        self.assertEqual((space.pending(at, 0)[1:], space.behind(at, 0)), ([("write", "y", ("b", "soft"))], ("b", "full")))
        at = space.web.go([call("f"), step(0)])
        self.assertEqual(space.pending(at, 0), [("write", "y", ()), ("write", "z", ("b",))])
        at = space.web.go([call("f"), step(0), step(1), step(0)])
        self.assertEqual((space.pending(at, 0), space.behind(at, 0)), ([], ()))

    def test_fences_of_two_gaps_keep_together(self):
        book = Book(Pairs(), fences={"soft": Pairs([("write", "release")])})
        steps = [write("x", 1), ("fence", "soft", None), ("read", "a", "y", None), ("release", "z", (1,), None)]
        space = Space(build_of(op("f", *steps)), [once("f")], book=book, window=3)
        self.assertEqual([deed for deed, _ in space.web.moves(1)], [step(0), step(1)])
        at = space.web.go([call("f"), step(1)])
        self.assertEqual([deed for deed, _ in space.web.moves(at)][-1], step(0))


    def test_fences_ahead_of_both_entries_do_not_hold_back(self):
        book = Book(Pairs(), fences={"soft": Pairs([("read", "write")])})
        steps = [write("x", 1), ("fence", "soft", None), read("a", "y"), write("z", 1), ("fence", "soft", None)]
        space = Space(build_of(op("f", *steps)), [once("f")], book=book, window=3)
        self.assertEqual(steps_at(space, 1), [0, 1, 2])


class RecipesTest(unittest.TestCase):
    def test_rows(self):
        target = Book(Pairs(), fences={"soft": Pairs()})
        source = Book(Pairs(), fences={"old": Pairs()})
        recipe = recipe_of(source, target, {
            "read": (("soft",), "acquire", ()), "write": ((), "release", ("full", "soft")), "old": ("full",), "return": ("soft",)})
        steps = [read("a", "x"), write("y", 1), ("fence", "old", None), read("b", "z"), ("give", (0,), None)]
        space = Space(build_of(op("f", *steps)), [once("f")], recipe=recipe, window=3)
        self.assertEqual(space.pending(1, 0), [("acquire", "x", ()), ("release", "y", ()), ("acquire", "z", ("full", "soft"))])
        self.assertEqual(space.behind(1, 0), ("soft",))

    def test_return_fences_are_put_when_the_call_becomes_ready(self):
        book = Book(Pairs())
        recipe = recipe_of(book, book, {"return": ("full",)})
        for steps in ([write("x", 1)], [write("x", 1), give(1)]):
            space = Space(build_of(op("f", *steps)), [once("f")], recipe=recipe)
            self.assertEqual(space.behind(1, 0), ("full",))
            self.assertEqual([deed for deed, _ in space.web.moves(1)], [step()])
        space = Space(build_of(op("f", write("x", 1), read("a", "y"), write("z", "a"))), [once("f")], recipe=recipe)
        self.assertEqual(space.behind(1, 0), ())

    def test_the_target_keeps(self):
        recipe = recipe_of(Book.strict(), Book.buffered())
        space = Space(build_of(op("f", write("x", 1), read("a", "y"))), [once("f")], recipe=recipe)
        self.assertEqual([deed for deed, _ in space.web.moves(1)], [step(0), step(1)])
        recipe = recipe_of(Book.strict(), Book.buffered(), {"write": ((), "write", ("full",))})
        space = Space(build_of(op("f", write("x", 1), read("a", "y"))), [once("f")], recipe=recipe)
        self.assertEqual([deed for deed, _ in space.web.moves(1)], [step(0)])


class NodesTest(unittest.TestCase):
    def test_takes_and_drops(self):
        steps = [("take", "p", None), ("take", "q", None), ("drop", "q", None), ("drop", "p", None), ("drop", "p", None),
                 ("take", "q", None)]
        space = Space(linked_build(op("f", *steps)), [once("f")])
        run = [call("f")] + [step()] * 5
        self.assertEqual([space.out(space.web.go(run[:most])) for most in range(7)], [0, 0, 1, 1, 0, 0, 1])
        self.assertEqual(along(space, run), [
            [("take", None, ())], [("take", None, ())], [("drop", None, ())], [("drop", None, ())], [("take", None, ())], []])

    def test_no_node_without_a_limit(self):
        steps = [("take", "p", None), ("write", ("val", "p"), (1,), None), ("read", "a", ("val", "p"), None),
                 ("swap", "a", ("val", "p"), (1,), None), ("cas", "a", ("val", "p"), (0,), (1,), None),
                 ("read", "q", ("next", "p"), None), give(1, ("p", "=", (0,)))]
        space = Space(linked_build(op("f", *steps), limit=0), [once("f")])
        self.assertEqual(moves_of(space.web), [[(call("f"), 1)], [(step(), 2)], [(back(1), 3)], []])

    def test_an_access_of_no_node_sets_its_local_to_0(self):
        for access in [("read", "a", ("val", "p"), None), ("swap", "a", ("val", "p"), (1,), None),
                       ("cas", "a", ("val", "p"), (0,), (1,), None)]:
            space = Space(linked_build(op("f", read("a", "x"), access, give("a")), cells={"x": 2, "top": 0}), [once("f")])
            self.assertEqual(space.web.moves(2), [(back(0), 3)])

    def test_fields_are_0_when_a_node_is_taken_and_stay_when_it_is_dropped(self):
        steps = [("take", "p", None), ("write", ("val", "p"), (2,), None), ("drop", "p", None), ("read", "a", ("val", "p"), None),
                 ("take", "q", None), ("read", "b", ("val", "q"), None), ("give", ("a", "b"), None)]
        for more in ({}, {"pool": Pool("last", 2)}, {"pool": Pool("first", 2)}):
            space = Space(linked_build(op("f", *steps)), [once("f")], **more)
            self.assertEqual(histories(space)[-1], [call("f"), back(2)])

    def test_standings_agree_up_to_the_names_of_fresh_nodes(self):
        steps = [("take", "p", None), ("write", "top", ("p",), None), ("drop", "p", None)]
        space = Space(linked_build(op("f", *steps)), [always("f")])
        self.assertEqual([len(space.web), space.web.go(([call("f")] + [step()] * 3 + [back(0)]) * 3)],
                         [8, space.web.go([call("f")] + [step()] * 3 + [back(0)])])
        kept = Space(linked_build(op("f", *steps[:2]), limit=2), [always("f")])
        self.assertEqual([kept.out(kept.web.go(([call("f")] + [step()] * 2 + [back(0)]) * n)) for n in range(4)], [0, 1, 2, 2])

    def test_a_row_of_nodes_grows_without_end(self):
        steps = [("take", "p", None), ("read", "q", "top", None), ("write", ("next", "p"), ("q",), None),
                 ("write", "top", ("p",), None), ("drop", "p", None)]
        with self.assertRaises(TooLarge) as caught:
            Space(linked_build(op("f", *steps)), [always("f")])
        self.assertEqual(caught.exception.bound, 4000)

    def test_numbers_of_nodes_are_no_numbers_of_the_base(self):
        steps = [("take", "p", None), ("take", "q", None), ("write", "top", ("q",), None), ("read", "p", "top", None),
                 give(1, ("p", "=", ("q",)))]
        build = Build(2, {"top": 0}, [op("f", *steps)], fields=("val",), links=("top", "p", "q"), limit=2)
        for more in ({}, {"pool": Pool("first", 2)}):
            self.assertEqual(histories(Space(build, [once("f")], **more))[-1], [call("f"), back(1)])
        steps = [("take", "p", None), ("take", "q", None), give(1, ("q", "=", ("p",))), give(1, ("q", "=", (0,)))]
        build = Build(2, {"top": 0}, [op("f", *steps)], fields=("val",), links=("top", "p", "q"), limit=2)
        self.assertEqual(histories(Space(build, [once("f")]))[-1], [call("f"), back(0)])

    def test_guards_of_links(self):
        steps = [("take", "p", None), ("read", "q", "top", None), ("write", "x", (1,), ("q", "=", ("p",))),
                 ("write", "x", (2,), ("q", "!", ("p",))), ("write", "top", ("p",), ("q", "=", (0,)))]
        space = Space(linked_build(op("f", *steps)), [once("f")])
        at = space.web.go([call("f")] + [step()] * 4)
        self.assertEqual((space.memory(at), space.called(at, 0)), ({"x": 2}, ""))


class PoolsTest(unittest.TestCase):
    def test_which_node_is_taken(self):
        """A node that was left with a number in its field is read again only when it comes back."""
        leave = op("leave", ("take", "p", None), ("take", "q", None), ("write", "top", ("p",), None), ("drop", "p", None),
                   ("drop", "q", None))
        look = op("look", ("take", "p", None), ("read", "q", "top", None), give(1, ("p", "=", ("q",))))
        build = linked_build(leave, look, limit=2)
        answers = {}
        for rule in ("last", "first", "quiet", "unheld"):
            for size in (2, 3):
                space = Space(build, [once("leave", "look")], pool=Pool(rule, size))
                answers[rule, size] = histories(space)[-1][-1][2]
        self.assertEqual(answers, {("last", 2): 0, ("last", 3): 0, ("first", 2): 1, ("first", 3): 0, ("quiet", 2): 1,
                                   ("quiet", 3): 0, ("unheld", 2): 0, ("unheld", 3): 0})

    def test_the_last_rule_takes_the_end_of_the_row(self):
        steps = [("take", "p", None), ("write", "top", ("p",), None), ("drop", "p", None), ("take", "q", None),
                 give(1, ("p", "=", ("q",)))]
        for rule, answer in [("last", 1), ("first", 0), ("unheld", 0)]:
            space = Space(linked_build(op("f", *steps)), [once("f")], pool=Pool(rule, 3))
            self.assertEqual(histories(space)[-1], [call("f"), back(answer)], rule)

    def test_takes_that_are_held_back(self):
        steps = [("take", "p", None), ("drop", "p", None), ("take", "q", None), give(1, ("p", "=", ("q",)))]
        for rule, size, answer in [("quiet", 1, None), ("quiet", 2, 0), ("unheld", 1, None), ("unheld", 2, 0), ("last", 1, 1)]:
            space = Space(linked_build(op("f", *steps)), [once("f")], pool=Pool(rule, size))
            at = space.web.go([call("f"), step(), step()])
            if answer is None:
                self.assertEqual((space.web.moves(at), space.pending(at, 0)), ([], [("take", None, ())]))
            else:
                self.assertEqual(histories(space)[-1], [call("f"), back(answer)])

    def test_no_take_is_held_back_when_no_more_may_be_out(self):
        steps = [("take", "p", None), ("take", "q", None), give(1, ("q", "=", (0,)))]
        for rule in ("last", "first", "quiet", "unheld"):
            space = Space(linked_build(op("f", *steps)), [once("f")], pool=Pool(rule, 1))
            self.assertEqual(histories(space)[-1], [call("f"), back(1)])

    def test_quiet_waits_for_all_calls_that_were_open(self):
        build = linked_build(op("f", ("take", "p", None), ("drop", "p", None)), op("g", NOTHING))
        space = Space(build, [once("f", "f"), once("g", "g"), once("g")], pool=Pool("quiet", 1))
        run = [call("g", 1), call("f"), step(), call("g", 2), step(), back(0), call("f")]
        self.assertNotIn(step(), [deed for deed, _ in space.web.moves(space.web.go(run))])
        run.append(back(0, 2))
        self.assertNotIn(step(), [deed for deed, _ in space.web.moves(space.web.go(run))])
        run.append(back(0, 1))
        self.assertIn(step(), [deed for deed, _ in space.web.moves(space.web.go(run))])
        run.append(call("g", 1))
        self.assertIn(step(), [deed for deed, _ in space.web.moves(space.web.go(run))])

    def test_quiet_does_not_wait_for_callers_without_a_call(self):
        build = linked_build(op("f", ("take", "p", None), ("drop", "p", None)), op("g", NOTHING))
        space = Space(build, [once("f", "f"), once("g")], pool=Pool("quiet", 1))
        run = [call("f"), step(), step(), back(0), call("f"), step()]
        self.assertEqual(space.out(space.web.go(run)), 1)
        run = run[:2] + [call("g", 1), back(0, 1)] + run[2:]
        self.assertEqual(space.out(space.web.go(run)), 1)

    def test_only_quiet_tells_apart_who_was_there_when_a_node_was_dropped(self):
        build = linked_build(op("f", ("take", "p", None), ("drop", "p", None)), op("g", NOTHING))
        runs = [[call("f"), step(), step(), call("g", 1)], [call("f"), step(), call("g", 1), step()]]
        same = []
        for rule in ("last", "first", "unheld", "quiet"):
            space = Space(build, [once("f"), once("g")], pool=Pool(rule, 1))
            same.append(space.web.go(runs[0]) == space.web.go(runs[1]))
        self.assertEqual(same, [True, True, True, False])

    def test_a_node_that_is_dropped_twice_waits_once(self):
        steps = [("take", "p", None), ("drop", "p", None), ("drop", "p", None), ("take", "p", None), ("take", "q", None)]
        for rule in ("last", "first"):
            space = Space(linked_build(op("f", *steps), limit=2), [once("f")], pool=Pool(rule, 2))
            at = space.web.go([call("f")] + [step()] * 5)
            self.assertEqual([space.out(space.web.go([call("f")] + [step()] * most)) for most in range(6)], [0, 1, 0, 0, 1, 2])
            self.assertEqual(space.called(at, 0), "")

    def test_dirty_standings(self):
        steps = [("take", "p", None), ("write", "top", ("p",), None), ("drop", "p", None)]
        build = linked_build(op("f", *steps))
        for rule, size, run in [("last", 1, 4), ("first", 1, 4), ("first", 2, None), ("last", 2, 4), ("quiet", 2, 5),
                                ("unheld", 2, None)]:
            space = Space(build, [once("f")], pool=Pool(rule, size))
            found = dirty_run(space)
            self.assertEqual(None if found is None else len(found), run, rule)
            if run is not None:
                self.assertTrue(space.dirty(space.web.go(found)))
                self.assertFalse(space.dirty(space.web.go(found[:-1])))
        self.assertIsNone(dirty_run(Space(build, [once("f")])))
        self.assertIs(Space(build, [once("f")]).dirty(0), False)


class ChoosersTest(unittest.TestCase):
    def test_ranks(self):
        ranked = Chooser(2, [(((0,), (1,)), (0, 0))])
        space = Space(build_of(SAFE), [once("safe"), once("safe")], chooser=ranked)
        self.assertEqual(space.web.moves(0), [(call("safe"), 1)])
        self.assertEqual(ends(space), [(0, 1)])
        self.assertEqual(len(space.web), 13)

    def test_states(self):
        turns = Chooser(2, [(((1,), (0,)), (0, 1)), (((0,), (1,)), (0, 1))])
        space = Space(build_of(GET), [once("get"), once("get")], chooser=turns)
        run = []
        for _ in range(6):
            moves = space.web.moves(space.web.go(run))
            self.assertEqual(len(moves), 1)
            run.append(moves[0][0])
        self.assertEqual([deed[0] for deed in run], [1, 0, 1, 0, 1, 0])

    def test_standings_tell_states_apart(self):
        everyone = ((0,),)
        turns = Chooser(1, [(everyone, (1,)), (everyone, (2,)), (everyone, (0,))])
        build = build_of(op("f", NOTHING))
        self.assertEqual([len(Space(build, [always("f")]).web), len(Space(build, [always("f")], chooser=turns).web)], [2, 6])

    def test_those_that_are_held_back_are_not_able(self):
        ranked = Chooser(2, [(((1,), (0,)), (1, 1)), (((0,), (1,)), (1, 1))])
        space = Space(build_of(SAFE), [once("safe"), once("safe")], chooser=ranked)
        # Caller 1 goes first and takes no lock; then caller 0 holds it, until it returns.
        self.assertEqual(ends(space), [(0, 1)])


class RefusalsTest(unittest.TestCase):
    def setUp(self):
        self.build = linked_build(op("f", ("fence", "soft", None), NOTHING), limit=2, cells={"x": 0, "top": 0})
        self.bad = {"joined": True, "book": Book.strict(), "recipe": recipe_of(Book.strict(), Book.strict()), "window": 4,
                    "pool": Pool("last", 1), "chooser": Chooser(2, [(((0, 1),), (0, 0))])}

    def refused(self, error, client, *names, **more):
        settings = {name: self.bad[name] for name in names}
        settings.update(more)
        with self.assertRaises(error) as caught:
            Space(self.build, client, **settings)
        return list(vars(caught.exception).values())

    def test_the_order_of_refusals(self):
        client = [once("f")]
        every = list(self.bad)
        self.assertEqual(self.refused(BadClient, [once()], *every), [0])
        self.assertEqual(self.refused(NoOperation, [once("g")], *every), ["g"])
        self.assertEqual(self.refused(BadSetting, client, *every), ["joined"])
        self.assertEqual(self.refused(BadSetting, client, *every[1:]), ["recipe"])
        self.assertEqual(self.refused(BadNumber, client, *every[2:]), [4])
        self.assertEqual(self.refused(BadPool, client, "recipe", "pool", "chooser"), [1])
        self.assertEqual(self.refused(BadSetting, client, "book", "chooser"), ["chooser"])
        self.assertEqual(self.refused(NoFence, client, "book"), ["soft"])

    def test_joined_is_alone(self):
        for name in ("pool", "book", "recipe"):
            self.assertEqual(self.refused(BadSetting, [once("f")], "joined", name), ["joined"])
        self.assertEqual(self.refused(BadNumber, [once("f")], "joined", window=1), [1])

    def test_windows(self):
        for window in (0, 1, 4, -2, True, False, None, "2", (2,), 2.0):
            self.assertEqual(self.refused(BadNumber, [once("f")], window=window), [window])
        for window in (2, 3):
            self.assertEqual(len(Space(self.build, [once("f")], window=window).web), 3)

    def test_pools_may_be_as_large_as_the_limit(self):
        self.assertEqual(len(Space(self.build, [once("f")], pool=Pool("quiet", 2)).web), 3)

    def test_fences(self):
        steps = [("fence", "b", None), ("fence", "a", ("x", "=", (1,)))]
        build = build_of(op("f", ("fence", "full", None), NOTHING), op("g", *steps))
        book = Book(Pairs(PAIRS), fences={"b": Pairs()})
        for more in ({"book": book}, {"recipe": recipe_of(book, Book(Pairs(), fences={"a": Pairs()}))}):
            with self.assertRaises(NoFence) as caught:
                Space(build, [once("f")], **more)
            self.assertEqual(caught.exception.name, "a")
        Space(build, [once("f")], recipe=recipe_of(Book(Pairs(), fences={"a": Pairs(), "b": Pairs()}), book))

    def test_no_standing(self):
        space = Space(build_of(GET), [once("get")])
        looks = [space.memory, space.holders, space.out, lambda at: space.called(at, 0), lambda at: space.pending(at, 0),
                 lambda at: space.behind(at, 0), space.dirty]
        for look in looks:
            for at in (4, -1, True, None, "0", (0,)):
                with self.assertRaises(NoStanding) as caught:
                    look(at)
                self.assertIs(caught.exception.at, at)
            look(3)

    def test_callers_that_there_are_not(self):
        space = Space(build_of(GET), [once("get")])
        for at in range(4):
            self.assertEqual((space.called(at, 1), space.pending(at, 1), space.behind(at, 2)), (None, [], ()))

    def test_too_large(self):
        with self.assertRaises(TooLarge) as caught:
            Space(build_of(COUNT, GET, base=5), [always("count", "get")] * 3)
        self.assertEqual(caught.exception.bound, 4000)


if __name__ == "__main__":
    unittest.main()
