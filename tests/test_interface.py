"""The names, arguments and places of the interface exist as the document writes them."""

import importlib
import inspect
import unittest

# For each module: functions with their arguments, and classes with those of each method that is listed.
FUNCTIONS = {
    "webs": {"shown": "run"},
    "papers": {"lockstep": "low, high"},
    "shapes": {"table_of": "shape"},
    "likeness": {"alike": "a, b", "parting": "a, b", "likeness": "a, b", "least": "table", "trade": "table, p, q",
                 "silent": "table, name"},
    "steps": {"worth_of": "worth, values, base", "holds": "guard, values, base"},
    "lone": {"lone_table": "build", "lone_answers": "build, calls"},
    "clients": {"once": "*names", "always": "*names", "check_client": "client, names"},
    "spaces": {"dirty_run": "space"},
    "plain": {"plain_web": "table, client"},
    "recipes": {"lost": "recipe", "additions": "recipe", "added": "recipe, chosen", "fewest": "recipe, most"},
    "crosses": {"cross": "recipe, pair"},
    "locking": {"reachable": "rule", "within": "a, b"},
    "rings": {"ring_of": "rule", "strikes": "rule, most"},
    "choosers": {"lets": "chooser, row", "parting_row": "a, b"},
    "traces": {"order_of": "table, trace", "orders_of": "table, trace", "breaks": "table, trace",
               "answers": "table, trace, caller", "part": "trace, names"},
    "towers": {"by_rule": "tower, name"},
    "mending": {"places": "build", "mended": "build, chosen", "fewest_places": "tower, among, wish"},
    "writer": {"told": "page", "told_block": "page, name"},
    "reader": {"page_of": "text"},
}
SHAPE = {"rows": "self"}
CLASSES = {
    "webs": {"Web": {"__init__": "self, rows", "__len__": "self", "moves": "self, at", "replies": "self, at, deed",
                     "go": "self, run", "lacks": "self, history", "__contains__": None, "histories": "self, most"}},
    "papers": {"Paper": {"__init__": "self, low, high, pairs", "__len__": "self", "__contains__": None,
                         "__iter__": "self", "__or__": None, "fault": "self", "reply": "self, pair, deed",
                         "then": "self, other", "trimmed": "self", "same": "web"}},
    "games": {"Game": {"__init__": "self, low, high", "word": "self", "rounds": "self", "paper": "self", "sets": "self",
                       "shortest": "self", "spoiler": "self"},
              "Spoiler": {"__call__": "self, reply", "stand": "property", "stretch": "property", "won": "property"}},
    "tables": {"Table": {"__init__": "self, rows, first=0", "names": "self", "__call__": "self, name, state",
                         "answers": "self, calls", "only": "self, names", "__add__": None}},
    "shapes": {"Shape": {"__init__": "self, size", "rows": "self"}, "Looks": SHAPE, "Ups": SHAPE, "Tops": SHAPE,
               "Clears": SHAPE, "Ticket": SHAPE, "Latch": SHAPE, "Meter": SHAPE},
    "builds": {"Operation": {"__init__": "self, name, steps, *, turns=1, otherwise=0", "steps": "self",
                             "sections": "self"},
               "Build": {"__init__": "self, base, cells, operations, *, fields=(), links=(), limit=0", "names": "self",
                         "cells": "self", "fields": "self", "links": "self", "locks": "self", "__getitem__": None,
                         "__iter__": "self", "__add__": None}},
    "spaces": {"Space": {"__init__": "self, build, client, *, joined=False, pool=None, book=None, recipe=None, window=2, "
                                     "chooser=None", "memory": "self, at", "holders": "self, at", "out": "self, at",
                         "called": "self, at, caller", "pending": "self, at, caller", "behind": "self, at, caller",
                         "dirty": "self, at"}},
    "books": {"Pairs": {"__init__": "self, pairs=()", "__contains__": None, "__len__": "self", "__iter__": "self",
                        "__and__": None, "__or__": None, "__sub__": None, "within": "self, other",
                        "between": "firsts, seconds"},
              "Book": {"__init__": "self, kept, *, fences=None", "fences": "self", "fence": "self, name",
                       "keeps": "self, first, second, *, between=()", "strict": "", "buffered": "", "loose": ""}},
    "recipes": {"Recipe": {"__init__": "self, source, target", "__getitem__": None, "__setitem__": None, "__iter__": "self",
                           "__ior__": None, "then": "self, second"}},
    "crosses": {"Cross": {}},
    "locking": {"Rule": {"__init__": "self, locks, entries=()", "locks": "self", "__contains__": None, "__len__": "self",
                         "__iter__": "self", "__getitem__": None, "__and__": None, "__or__": None, "__sub__": None,
                         "keeps": "self, steps", "every": "locks", "rising": "locks", "gate": "locks"}},
    "rings": {"Ring": {"programs": "property", "wants": "property", "order": "property", "as_build": "self",
                       "as_client": "self"}},
    "plans": {"Plan": {"__init__": "self, guards", "__getitem__": None, "__contains__": None, "__iter__": "self",
                       "fault": "self, build"}},
    "pools": {"Pool": {"__init__": "self, rule, size"}},
    "choosers": {"Chooser": {"__init__": "self, callers, states", "__len__": "self", "__call__": "self, state, able",
                             "after": "self, state, caller", "states": "self", "free": "callers", "ranked": "callers",
                             "rotating": "callers"}},
    "ends": {"Ends": {"__init__": "self, web", "stuck": "self", "some": "self", "each": "self", "fair": "self",
                      "singly": "self", "stuck_run": "self", "lasso": "self, word", "falls": "self"}},
    "towers": {"Tower": {"__init__": "self, table, build, client, *, pool=None, book=None, recipe=None, window=2, "
                                     "chooser=None", "rungs": "self", "__getitem__": None, "__iter__": "self",
                         "space": "self, name", "word": "self, name", "whole": "self", "game": "self, name",
                         "papers": "self", "paper": "self", "blame": "self, run"}},
    "mending": {"Mend": {}},
    "pages": {"Page": {"__init__": "self", "put": "self, name, kind, thing", "kind": "self, name", "__getitem__": None,
                       "__iter__": "self", "built": "self, name"}},
    "desk": {"Desk": {"__init__": "self, text", "asked": "property", "ask": "self, line"}},
}

STATIC = [("papers", "Paper", ["same"]), ("books", "Pairs", ["between"]), ("books", "Book", ["strict", "buffered", "loose"]),
          ("locking", "Rule", ["every", "rising", "gate"]), ("choosers", "Chooser", ["free", "ranked", "rotating"])]


class InterfaceTest(unittest.TestCase):
    def told(self, function):
        return str(inspect.signature(function))[1:-1]

    def test_functions(self):
        for module, functions in FUNCTIONS.items():
            for name, arguments in functions.items():
                with self.subTest(name=name):
                    function = getattr(importlib.import_module(f"coretower.{module}"), name)
                    self.assertEqual(function.__module__, f"coretower.{module}")
                    self.assertEqual(self.told(function), arguments)

    def test_classes(self):
        for module, classes in CLASSES.items():
            for name, methods in classes.items():
                kind = getattr(importlib.import_module(f"coretower.{module}"), name)
                self.assertEqual(kind.__module__, f"coretower.{module}")
                for method, arguments in methods.items():
                    with self.subTest(name=name, method=method):
                        found = vars(kind)[method]
                        if arguments == "property":
                            self.assertIsInstance(found, property)
                        elif arguments is not None:
                            self.assertEqual(self.told(getattr(kind, method)), arguments)

    def test_static_methods(self):
        for module, name, methods in STATIC:
            kind = getattr(importlib.import_module(f"coretower.{module}"), name)
            for method in methods:
                self.assertIsInstance(vars(kind)[method], staticmethod)


if __name__ == "__main__":
    unittest.main()
