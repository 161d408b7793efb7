import unittest

from coretower.builds import Build, Operation
from coretower.errors import BadName, BadNumber, BadStep, NoCell, NoOperation, SameName, TooLarge

GIVE = ("give", (1,), None)
IF = ("p", "=", (0,))
NO_NAMES = ["", "abcdefghi", "A", "a1", "a b", "\u00e4", "a\n", 1, True, None, ["a"], b"a", {}]
NO_WORTHS = [(), (1, 1, 1, 1), [1], 1, "p", None, (10,), (-1,), (True,), (None,), ("P",), ((1,),), (1, "p", "")]
NO_GUARDS = ["p", (), ("p",), ("p", "="), ("p", "=", (0,), None), ["p", "=", (0,)], ("p", "==", (0,)), ("p", ">", (0,)),
             ("p", "", (0,)), ("p", None, (0,)), ("p", ["="], (0,)), ("P", "=", (0,)), (1, "=", (0,)), ("p", "=", 0),
             ("p", "=", ()), ("p", "=", None), 0, False, True]
NO_PLACES = [("f",), ("f", "p", "q"), ["f", "p"], (), ("F", "p"), ("f", "P"), ("f", 1), (None, "p"), ("f", ("p",))]
NO_NUMBERS = [-1, 10, True, False, None, "1", 1.0, (1,), [1]]

# For each word good parts and, in turn, the kind of each part.
FORMS = {
    "read": (("p", "c", None), ("name", "place", "guard")),
    "acquire": (("p", ("f", "n"), IF), ("name", "place", "guard")),
    "write": (("c", (1, "p"), None), ("place", "worth", "guard")),
    "release": ((("f", "n"), ("p",), IF), ("place", "worth", "guard")),
    "swap": (("p", "c", (1,), None), ("name", "place", "worth", "guard")),
    "cas": (("p", "c", (0,), (1, 2, 3), IF), ("name", "place", "worth", "worth", "guard")),
    "fence": (("full", None), ("name", "guard")),
    "lock": (("m",), ("name",)),
    "free": (("m",), ("name",)),
    "take": (("n", None), ("name", "guard")),
    "drop": (("n", IF), ("name", "guard")),
    "give": ((("p", 1), None), ("worth", "guard")),
}
BAD_PARTS = {"name": NO_NAMES + [("a",)], "place": NO_NAMES + NO_PLACES, "worth": NO_WORTHS, "guard": NO_GUARDS}
HELD = ("lock", "m")
FREED = ("free", "m")


def around(step):
    """The steps that make a lock or free step one in its place."""
    return {"lock": ([], [FREED]), "free": ([HELD], [])}.get(step[0], ([], []))


class OperationTest(unittest.TestCase):
    def bad(self, at, steps, **more):
        with self.assertRaises(BadStep) as caught:
            Operation("op", steps, **more)
        self.assertEqual((caught.exception.name, caught.exception.at), ("op", at))
        self.assertIsNone(caught.exception.__cause__)

    def test_names(self):
        self.assertEqual([Operation(name, [GIVE]).name for name in ("a", "abcdefgh")], ["a", "abcdefgh"])
        for name in NO_NAMES + [("a",)]:
            with self.assertRaises(BadName) as caught:
                Operation(name, [])
            self.assertIs(caught.exception.name, name)

    def test_numbers_of_steps(self):
        self.assertEqual(len(Operation("op", [GIVE]).steps()), 1)
        self.assertEqual(len(Operation("op", [GIVE] * 80).steps()), 80)
        self.bad(0, [])
        self.bad(80, [GIVE] * 81)
        self.bad(80, [None] * 100)

    def test_each_word(self):
        for word, (parts, _) in FORMS.items():
            step = (word, *parts)
            before, behind = around(step)
            self.assertEqual(Operation("op", before + [step] + behind).steps(), before + [step] + behind)
            if parts[-1] is None or parts[-1] == IF:
                for guard in (None, IF, ("q", "!", ("p", 1, 9)), ("abcdefgh", "<", ("q",))):
                    self.assertEqual(len(Operation("op", [step[:-1] + (guard,)]).steps()), 1)

    def test_a_part_too_many_or_too_few(self):
        for word, (parts, _) in FORMS.items():
            step = (word, *parts)
            before, behind = around(step)
            for odd in (step[:-1], step + (None,), step + (step[-1],), step[:1]):
                with self.subTest(step=odd):
                    self.bad(len(before), before + [odd] + behind)

    def test_each_part_odd_in_turn(self):
        for word, (parts, kinds) in FORMS.items():
            for at, kind in enumerate(kinds):
                for part in BAD_PARTS[kind]:
                    step = (word, *parts[:at], part, *parts[at + 1:])
                    before, behind = around(step)
                    with self.subTest(step=step):
                        self.bad(len(before), before + [step] + behind)

    def test_odd_words(self):
        for word in ("", "reads", "Read", "local", "return", "mend", None, 1, True, ("read",), ["read"]):
            for parts, _ in FORMS.values():
                self.bad(1, [GIVE, (word, *parts)])

    def test_any_value_that_is_no_tuple(self):
        for step in (None, 5, "give", "", ["give", (1,), None], {}, (), True, object()):
            self.bad(2, [GIVE, GIVE, step])

    def test_the_first_wrong_step(self):
        self.bad(1, [GIVE, ("give", 1, None), None, GIVE])

    def test_names_may_be_names_of_anything(self):
        steps = [("read", "c", "c", None), ("fence", "read", None), ("fence", "return", None),
                 ("write", "m", ("c",), None), ("lock", "c"), ("free", "c"), ("take", "c", None),
                 ("give", ("c",), None)]
        self.assertEqual(Operation("c", steps).steps(), steps)

    def test_locks_out_of_place(self):
        other = ("lock", "k")
        self.bad(1, [HELD, HELD, FREED])
        self.bad(2, [HELD, other, HELD, FREED])
        self.bad(0, [FREED])
        self.bad(2, [HELD, FREED, FREED])
        self.bad(1, [HELD, ("free", "k"), FREED])
        self.bad(1, [HELD])
        self.bad(4, [HELD, other, FREED, GIVE])
        self.bad(80, [HELD] + [GIVE] * 79)
        self.bad(1, [FREED, ("give",)])
        fine = [HELD, other, FREED, HELD, ("free", "k"), FREED, HELD, FREED]
        self.assertEqual(Operation("op", fine).steps(), fine)

    def test_form_ahead_of_locks(self):
        self.bad(3, [FREED, HELD, HELD, None])

    def test_locks_are_looked_at_without_regard_to_guards_and_gives(self):
        steps = [HELD, ("give", (1,), None), ("give", (1,), IF), FREED]
        self.assertEqual(Operation("op", steps).sections(), [(0, 3)])
        self.bad(2, [HELD, ("give", (1,), None)])

    def test_turns_and_otherwise(self):
        operation = Operation("op", [GIVE])
        self.assertEqual((operation.turns, operation.otherwise), (1, 0))
        for turns in range(5):
            self.assertEqual(Operation("op", [GIVE], turns=turns).turns, turns)
        for otherwise in range(10):
            self.assertEqual(Operation("op", [GIVE], otherwise=otherwise).otherwise, otherwise)
        for turns in NO_NUMBERS + [5, 9]:
            with self.assertRaises(BadNumber) as caught:
                Operation("op", [GIVE], turns=turns, otherwise=77)
            self.assertIs(caught.exception.number, turns)
        for otherwise in NO_NUMBERS:
            with self.assertRaises(BadNumber) as caught:
                Operation("op", [GIVE], otherwise=otherwise)
            self.assertIs(caught.exception.number, otherwise)

    def test_turns_and_otherwise_are_named(self):
        with self.assertRaises(TypeError):
            Operation("op", [GIVE], 1)

    def test_order_of_the_errors(self):
        with self.assertRaises(BadName):
            Operation("Op", [None] * 99, turns=9, otherwise=99)
        self.bad(80, [None] * 99, turns=9, otherwise=99)
        self.bad(0, [None, HELD], turns=9, otherwise=99)
        self.bad(1, [HELD], turns=9, otherwise=99)

    def test_sections(self):
        other, other_freed = ("lock", "k"), ("free", "k")
        steps = [GIVE, HELD, other, FREED, GIVE, other_freed, GIVE, other, other_freed, HELD, GIVE, FREED]
        self.assertEqual(Operation("op", steps).sections(), [(1, 5), (7, 8), (9, 11)])
        self.assertEqual(Operation("op", [GIVE]).sections(), [])
        self.assertEqual(Operation("op", [HELD, other, FREED, HELD, other_freed, FREED]).sections(), [(0, 5)])

    def test_what_is_given_is_copied_and_what_is_returned_is_new(self):
        steps = [HELD, FREED]
        operation = Operation("op", steps)
        steps.append(GIVE)
        operation.steps().clear()
        operation.sections().clear()
        self.assertEqual((operation.steps(), operation.sections()), ([HELD, FREED], [(0, 1)]))


def operation(*steps, name="op"):
    return Operation(name, list(steps) or [GIVE])


class Fields(list):
    """The values of several fields of an error."""


class BuildTest(unittest.TestCase):
    def raises(self, kind, value, *given, **more):
        with self.assertRaises(kind) as caught:
            Build(*given, **more)
        self.assertEqual(list(vars(caught.exception).values()), list(value) if isinstance(value, Fields) else [value])
        return caught.exception

    def test_what_it_tells(self):
        push = operation(("lock", "k"), ("lock", "m"), ("take", "n", None), ("write", ("next", "n"), ("n",), None),
                         ("free", "m"), ("free", "k"), name="push")
        pop = operation(("lock", "z"), ("lock", "m"), ("read", "n", "top", None), ("free", "m"), ("free", "z"),
                        name="pop")
        build = Build(3, {"top": 0, "size": 2}, [push, pop], fields=("next", "item"), links=("top", "n", "next", "n"),
                      limit=2)
        self.assertEqual((build.base, build.limit), (3, 2))
        self.assertEqual(build.names(), ["push", "pop"])
        self.assertEqual(list(build), ["push", "pop"])
        self.assertEqual(list(build.cells().items()), [("top", 0), ("size", 2)])
        self.assertEqual(build.fields(), ["next", "item"])
        self.assertEqual(build.links(), ["n", "next", "top"])
        self.assertEqual(build.locks(), ["k", "m", "z"])
        self.assertIs(build["push"], push)
        self.assertIs(build["pop"], pop)
        for name in ("no", "", None, 0, ["push"], ("push",)):
            with self.assertRaises(NoOperation) as caught:
                build[name]
            self.assertIs(caught.exception.name, name)

    def test_defaults(self):
        build = Build(2, {}, [operation()])
        self.assertEqual((build.cells(), build.fields(), build.links(), build.locks(), build.limit),
                         ({}, [], [], [], 0))

    def test_what_is_given_is_copied_and_what_is_returned_is_new(self):
        cells, operations = {"c": 1}, [operation(("read", "p", "c", None), ("lock", "m"), ("free", "m"))]
        build = Build(2, cells, operations, fields=("f",), links=("n",))
        cells["d"] = 9
        operations.append(operations[0])
        for told in (build.names(), build.cells(), build.fields(), build.links(), build.locks()):
            told.clear()
        self.assertEqual((build.names(), build.cells(), build.fields(), build.links(), build.locks(), list(build)),
                         (["op"], {"c": 1}, ["f"], ["n"], ["m"], ["op"]))

    def test_base(self):
        for base in (2, 3, 4, 5):
            self.assertEqual(Build(base, {}, [operation()]).base, base)
        for base in NO_NUMBERS + [0, 1, 6]:
            self.raises(BadNumber, base, base, {name: "x" for name in "ABCDEFG"}, [])

    def test_cells(self):
        self.assertEqual(len(Build(2, {name: 1 for name in "abcdef"}, [operation()]).cells()), 6)
        self.raises(TooLarge, 6, 2, {name: 9 for name in "ABCDEFG"}, [], fields=("A",) * 3)
        for name in NO_NAMES[:10]:
            self.raises(BadName, name, 2, {"c": 0, name: "x", "d": 9}, [], fields=("A",) * 3)
        for base in (2, 5):
            self.assertEqual(Build(base, {"c": base - 1}, [operation()]).cells(), {"c": base - 1})
            for number in NO_NUMBERS + [base, 9]:
                self.raises(BadNumber, number, base, {"c": 0, "d": number, "E": 0}, [], fields=("A",) * 3)

    def test_link_cells_hold_0_at_first(self):
        self.assertEqual(Build(2, {"c": 0}, [operation()], links=("c",)).cells(), {"c": 0})
        self.raises(BadNumber, 1, 2, {"d": 1, "c": 1, "E": 0}, [], links=("c", "A"))
        self.raises(BadNumber, False, 2, {"c": False}, [], links=("c",))

    def test_fields(self):
        self.assertEqual(Build(2, {}, [operation()], fields=("f", "g")).fields(), ["f", "g"])
        self.raises(TooLarge, 2, 2, {}, [], fields=("A", "A", "A"), links=("A",), limit=9)
        for name in NO_NAMES:
            self.raises(BadName, name, 2, {}, [], fields=("f", name), links=("A",), limit=9)
        self.raises(BadName, "c", 2, {"c": 0}, [], fields=("c", "A"), links=("A",), limit=9)
        self.raises(BadName, "f", 2, {"c": 0}, [], fields=("f", "f"), links=("A",), limit=9)

    def test_links_and_limit(self):
        for name in NO_NAMES:
            self.raises(BadName, name, 2, {}, [], links=("n", name, "A"), limit=9)
        for limit in NO_NUMBERS + [4]:
            self.raises(BadNumber, limit, 2, {}, [], limit=limit)
        for limit in range(4):
            self.assertEqual(Build(2, {}, [operation()], limit=limit).limit, limit)

    def test_operations(self):
        wrong = operation(("read", "p", "no", None), name="a")
        self.assertEqual(Build(2, {}, [operation(name=name) for name in "abcdef"]).names(), list("abcdef"))
        self.raises(TooLarge, 6, 2, {}, [])
        self.raises(TooLarge, 6, 2, {}, [wrong] * 7)
        self.raises(SameName, "b", 2, {}, [wrong, operation(name="b"), operation(name="b"), wrong])
        self.assertEqual(Build(2, {}, [operation(name="a"), operation(name="c")]).names(), ["a", "c"])

    def test_unknown_cells_and_fields(self):
        for step, name in ((("read", "p", "no", None), "no"), (("write", "f", (0,), None), "f"),
                           (("swap", "p", ("c", "n"), (0,), None), "c"),
                           (("cas", "p", ("no", "n"), (0,), (0,), None), "no"),
                           (("acquire", "p", "n", None), "n"), (("release", ("g", "n"), (0,), None), "g")):
            with self.subTest(step=step):
                first = operation(("give", ("n",), None), name="first")
                second = operation(GIVE, ("give", ("n",), None), step, ("read", "p", "other", None), name="second")
                error = self.raises(BadStep, Fields(["second", 2]), 2, {"c": 0}, [first, second],
                                    fields=("f",), links=("n",))
                self.assertIsInstance(error.__cause__, NoCell)
                self.assertEqual(error.__cause__.name, name)

    def test_order_of_the_errors(self):
        """Each error that is due is raised as long as all that are told behind it are due as well."""
        wrong = [operation(("give", ("n",), None), name="a"), operation(("read", "p", "no", None), name="b")]
        given = dict(base=9, cells={name: 0 for name in "abcdefg"}, operations=wrong * 4, fields=("F",) * 3,
                     links=("n", "N"), limit=9)
        mended = [(BadNumber, [9], dict(base=2)), (TooLarge, [6], dict(cells={"A": 9})),
                  (BadName, ["A"], dict(cells={"c": 9})),
                  (BadNumber, [9], dict(cells={"c": 0})), (TooLarge, [2], dict(fields=("F",))),
                  (BadName, ["F"], dict(fields=("f",))), (BadName, ["N"], dict(links=("n",))),
                  (BadNumber, [9], dict(limit=1)), (TooLarge, [6], dict(operations=wrong * 2)),
                  (SameName, ["a"], dict(operations=wrong)), (BadStep, ["b", 0], dict(operations=wrong[:1])),
                  (BadStep, ["a", 0], dict(links=()))]
        for kind, values, better in mended:
            with self.assertRaises(kind) as caught:
                Build(**given)
            self.assertEqual(list(vars(caught.exception).values()), values)
            given.update(better)
        self.assertEqual(Build(**given).names(), ["a"])


# Cells c and l, fields f and g, locals p, q and n, m; of these l, g, n and m are links.
LINKS = ("g", "l", "m", "n")
GOOD_LINKS = [
    ("read", "p", "c", None), ("read", "n", "l", None), ("read", "p", ("f", "n"), None),
    ("acquire", "m", ("g", "n"), None), ("acquire", "n", ("g", "n"), None),
    ("write", "c", ("p", "q", 9), None), ("write", "l", ("n",), None), ("write", "l", (0,), None),
    ("write", ("f", "n"), (0,), None), ("release", ("g", "n"), ("m",), None), ("release", ("g", "n"), (0,), None),
    ("swap", "p", "c", ("p",), None), ("swap", "n", "l", ("m",), None), ("swap", "n", ("g", "m"), (0,), None),
    ("cas", "p", "c", ("p",), (1, 2), None), ("cas", "p", "l", (0,), ("n",), None),
    ("cas", "p", ("g", "n"), ("n",), (0,), None),
    ("take", "n", None), ("drop", "m", None), ("give", ("p", 1), None), ("give", (0,), None),
    ("fence", "n", None), ("lock", "n"), ("free", "n"),
]
BAD_LINKS = [
    ("read", "n", "c", None), ("read", "p", "l", None), ("acquire", "n", ("f", "n"), None),
    ("acquire", "p", ("g", "n"), None),
    ("read", "p", ("f", "p"), None), ("read", "n", ("g", "q"), None),
    ("write", "c", ("n",), None), ("write", "c", (1, "n"), None), ("write", "l", ("p",), None),
    ("write", "l", (1,), None),
    ("write", "l", ("n", 0), None), ("write", "l", (0, 0), None), ("write", ("f", "n"), ("n",), None),
    ("release", ("g", "n"), (2,), None), ("release", ("g", "p"), (0,), None), ("release", ("f", "c"), (0,), None),
    ("swap", "n", "c", (0,), None), ("swap", "p", "l", (0,), None), ("swap", "p", "c", ("n",), None),
    ("swap", "n", "l", ("p",), None), ("swap", "n", "l", (1,), None), ("swap", "n", ("g", "p"), (0,), None),
    ("cas", "n", "c", (0,), (0,), None), ("cas", "n", "l", (0,), (0,), None), ("cas", "p", "c", ("n",), (0,), None),
    ("cas", "p", "c", (0,), ("n",), None), ("cas", "p", "l", ("p",), (0,), None), ("cas", "p", "l", (0,), (1,), None),
    ("cas", "p", "l", (3,), (0,), None), ("cas", "p", "l", (0,), (0, "n"), None),
    ("cas", "p", ("g", "p"), (0,), (0,), None),
    ("take", "p", None), ("drop", "p", None), ("give", ("n",), None), ("give", (0, "n"), None),
]
GOOD_GUARDS = [("p", "=", ("q",)), ("p", "!", (1, "q")), ("p", "<", (9,)), ("n", "=", (0,)), ("n", "!", ("m",)),
               ("n", "=", ("n",))]
BAD_GUARDS = [("p", "=", ("n",)), ("p", "<", (0, "n")), ("n", "=", (1,)), ("n", "!", ("p",)), ("n", "=", ("m", 0)),
              ("n", "=", (0, 0)), ("n", "<", (0,)), ("n", "<", ("m",))]
GUARDED = [step[:-1] for step in GOOD_LINKS if step[-1] is None]


def linked_build(*operations):
    return Build(3, {"c": 1, "l": 0}, list(operations), fields=("f", "g"), links=LINKS, limit=1)


class LinksTest(unittest.TestCase):
    def bad(self, step):
        good, bad = operation(*GOOD_LINKS, name="good"), operation(GIVE, *GOOD_LINKS, step, GOOD_LINKS[0], name="bad")
        with self.assertRaises(BadStep) as caught:
            linked_build(good, bad)
        self.assertEqual((caught.exception.name, caught.exception.at), ("bad", 1 + len(GOOD_LINKS)))
        self.assertIsNone(caught.exception.__cause__)

    def test_links_in_each_kind_of_step(self):
        self.assertEqual(linked_build(operation(*GOOD_LINKS))["op"].steps(), GOOD_LINKS)
        for step in BAD_LINKS:
            with self.subTest(step=step):
                self.bad(step)

    def test_links_in_guards_of_each_kind_of_step(self):
        for start in GUARDED:
            for guard in GOOD_GUARDS:
                linked_build(operation(start + (guard,)))
            for guard in BAD_GUARDS:
                with self.subTest(start=start, guard=guard):
                    self.bad(start + (guard,))
        for guard in BAD_GUARDS:
            self.bad(("fence", "full", guard))

    def test_a_name_is_a_link_everywhere_or_nowhere(self):
        steps = [("read", "c", "c", None), ("write", "c", ("c",), None)]
        self.assertEqual(Build(2, {"c": 0}, [operation(*steps)], links=("c",)).links(), ["c"])
        self.assertEqual(Build(2, {"c": 0}, [operation(*steps)]).links(), [])
        with self.assertRaises(BadStep):
            Build(2, {"c": 0}, [operation(("write", "c", (1,), None))], links=("c",))

    def test_places_of_later_operations_go_ahead_of_links(self):
        with self.assertRaises(BadStep) as caught:
            linked_build(operation(("take", "p", None), name="a"), operation(GIVE, ("read", "p", "no", None), name="b"))
        self.assertEqual((caught.exception.name, caught.exception.at), ("b", 1))

    def test_the_first_wrong_step(self):
        with self.assertRaises(BadStep) as caught:
            linked_build(operation(GIVE, ("take", "p", None), ("drop", "p", None), name="a"),
                         operation(("take", "p", None)))
        self.assertEqual((caught.exception.name, caught.exception.at), ("a", 1))


def locked(name, *locks):
    steps = [("lock", lock) for lock in locks] + [("free", lock) for lock in locks] + [GIVE]
    return Operation(name, steps)


class SideBySideTest(unittest.TestCase):
    def raises(self, kind, value, a, b):
        with self.assertRaises(kind) as caught:
            a + b
        self.assertEqual(list(vars(caught.exception).values()), [value])

    def test_the_sum(self):
        one, two, three = locked("one", "m"), locked("two", "k"), operation(("read", "p", "d", None), name="three")
        a, b = Build(3, {"c": 1, "b": 2}, [two, one], limit=2), Build(3, {"a": 0, "d": 1}, [three], limit=3)
        both = a + b
        self.assertIsInstance(both, Build)
        self.assertEqual((both.base, both.limit, both.fields(), both.links()), (3, 0, [], []))
        self.assertEqual(list(both.cells().items()), [("c", 1), ("b", 2), ("a", 0), ("d", 1)])
        self.assertEqual((both.names(), both.locks()), (["two", "one", "three"], ["k", "m"]))
        self.assertIs(both["one"], one)
        self.assertIs(both["three"], three)
        self.assertEqual((b + a).names(), ["three", "two", "one"])
        self.assertEqual((a.names(), a.limit, b.names(), b.limit), (["two", "one"], 2, ["three"], 3))

    def test_locals_and_fences_may_be_the_same(self):
        a = Build(2, {"c": 0}, [operation(("read", "p", "c", None), ("fence", "full", None), name="a")])
        b = Build(2, {"p": 0}, [operation(("read", "p", "p", None), ("fence", "full", None), name="b")])
        self.assertEqual((a + b).names(), ["a", "b"])

    def test_errors_in_their_order(self):
        many = [locked(name, "m") for name in "uvwxyz"]
        cells = {name: 0 for name in "abcdef"}
        b = dict(base=3, cells=cells, operations=many, fields=("t", "h"), links=("z", "o"))
        a = dict(base=2, cells=cells, operations=many, fields=("s", "i"), links=("x", "n"))
        steps = [(BadNumber, 3, {}, dict(base=2)),
                 (SameName, "n", dict(links=()), {}), (SameName, "s", dict(fields=()), {}),
                 (SameName, "o", {}, dict(links=())), (SameName, "t", {}, dict(fields=())),
                 (SameName, "a", {}, dict(cells={"g": 0})),
                 (SameName, "m", {}, dict(operations=[locked("v"), locked("u")])),
                 (SameName, "u", {}, dict(operations=[locked("o")])), (TooLarge, 6, {}, dict(cells={})),
                 (TooLarge, 6, dict(operations=many[:5]), {})]
        for kind, value, better_a, better_b in steps:
            self.raises(kind, value, Build(**a), Build(**b))
            a.update(better_a)
            b.update(better_b)
        both = Build(**a) + Build(**b)
        self.assertEqual((len(both.cells()), len(both.names())), (6, 6))

    def test_the_first_common_name(self):
        a = Build(2, {"c": 0, "b": 0, "a": 0}, [operation()])
        self.raises(SameName, "b", a, Build(2, {"a": 0, "b": 0}, [operation()]))
        a = Build(2, {}, [locked("x", "k", "m", "j")])
        self.raises(SameName, "m", a, Build(2, {}, [locked("x", "j", "m")]))
        a = Build(2, {}, [locked("z"), locked("y"), locked("x")])
        self.raises(SameName, "y", a, Build(2, {}, [locked("x"), locked("y")]))

    def test_too_many_cells_go_ahead_of_too_many_operations(self):
        a = Build(2, {name: 0 for name in "abcd"}, [locked(name) for name in "uvwx"])
        b = Build(2, {name: 0 for name in "efg"}, [locked(name) for name in "rst"])
        self.raises(TooLarge, 6, a, b)
        c = Build(2, {"e": 0}, [locked(name) for name in "rst"])
        self.raises(TooLarge, 6, a, c)
        self.assertEqual(len((a + Build(2, {"e": 0, "f": 0}, [locked(name) for name in "rs"])).names()), 6)


if __name__ == "__main__":
    unittest.main()
