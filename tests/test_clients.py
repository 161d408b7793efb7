import unittest

from coretower.clients import always, check_client, once
from coretower.errors import BadClient, NoOperation

GOOD = once("f")
NO_MENUS = [(), [], ("f", "f"), ["f"], ("f", "F"), ("f", ""), ("f", 1), "f", None, ("f", "g", "h", "i", "j", "k", "l"),
            (("f",),), (["f"],)]
NO_CALLERS = [(), None, "f", ("f",), ((), True), ((("f",),),), ((("f",),), True, True), [(("f",),), True],
              ([("f",)], True), ((("f",),) * 5, False), ((("f",),), 1), ((("f",),), None), ((("f",),), 0), ("f", True),
              {}, (True, (("f",),))]


class ClientsTest(unittest.TestCase):
    def bad(self, caller, client, names=("f",)):
        with self.assertRaises(BadClient) as caught:
            check_client(client, list(names))
        self.assertEqual(caught.exception.caller, caller)

    def test_once_and_always(self):
        self.assertEqual(once("g", "f", "g"), ((("g",), ("f",), ("g",)), False))
        self.assertEqual(always("g", "f"), ((("g", "f"),), True))

    def test_they_check_nothing(self):
        self.assertEqual(once(), ((), False))
        self.assertEqual(always(), (((),), True))
        self.assertEqual(once(*"abcdef"), ((("a",), ("b",), ("c",), ("d",), ("e",), ("f",)), False))
        self.assertEqual(always("f", "f", 3), ((("f", "f", 3),), True))

    def test_good_clients(self):
        names = ["f", "g", "h", "i", "j", "k"]
        for client in ([GOOD], [GOOD] * 3, [once("f", "g", "f", "h")], [always(*names)], [((("g", "f"), ("f",)), True)]):
            self.assertIsNone(check_client(client, names))

    def test_wrong_callers(self):
        for caller in NO_CALLERS + [((("f",), menu), False) for menu in NO_MENUS]:
            with self.subTest(caller=caller):
                self.bad(0, [caller])
                self.bad(1, [GOOD, caller, caller])
                self.bad(2, [GOOD, once("nope"), caller, caller])

    def test_numbers_of_callers(self):
        self.bad(0, [])
        self.bad(3, [GOOD] * 4)
        self.bad(3, [GOOD, GOOD, GOOD, None, None])
        self.bad(2, [GOOD, GOOD, None, GOOD])
        self.bad(3, [once("nope")] * 4)

    def test_unknown_names(self):
        client = [((("f",), ("g", "x")), True), once("y")]
        for names, missing in [(["f", "x", "y"], "g"), (["f", "g", "y"], "x"), (["f", "g", "x"], "y"), ([], "f")]:
            with self.assertRaises(NoOperation) as caught:
                check_client(client, names)
            self.assertEqual(caught.exception.name, missing)


if __name__ == "__main__":
    unittest.main()
