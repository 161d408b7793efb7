"""The package keeps to the rules of LANGUAGE.md that can be seen by machine, and these are looked for."""

import ast
import pathlib
import unittest

from tests.language import Finder, findings

PACKAGE = pathlib.Path(__file__).resolve().parent.parent / "coretower"


class PackageTest(unittest.TestCase):
    def test_nothing_is_found_in_the_package(self):
        self.assertEqual(findings(PACKAGE), [])


class FinderTest(unittest.TestCase):
    def rules(self, text):
        return [row.split()[1].rstrip(":") for row in Finder("x.py", text, set()).find()]

    def test_good_code_passes(self):
        text = ('"""Told."""\n\n\ndef told(rows):\n    return sorted({row for row in rows if row is not None})\n'
                '\n\nROWS = {"told": told}\n')
        self.assertEqual(self.rules(text), [])

    def test_what_is_not_allowed_is_found(self):
        cases = [
            ("import os\n", "L6/L7/L21"), ("from os import path\n", "L2"), ("x = [y for y in z]\nx.sort()\n", "L3"),
            ("def f(xs):\n    xs.sort()\n", "L25"), ("def f(x):\n    return x / 2\n", "L6/L7/L21"),
            ("def f(x):\n    return 1.5\n", "L7"), ("def f(x):\n    return x is f\n", "L20"),
            ("def f(x: int):\n    return x\n", "L21"), ("def f(xs):\n    y = zip(xs, xs)\n    return y\n", "L23"),
            ("def f(xs):\n    return set(xs)\n", "L24"), ("def f(xs):\n    return 2 ** xs\n", "L27"),
            ("def f(xs):\n    return '%'\n", "L27"), ("def f(id):\n    return 0\n", "L12/L17"),
            ("def f(xs):\n    return getattr(xs, 'a')\n", "L8"), ("def f(xs):\n    raise xs\n", "L19"),
            ("def f(xs):\n" + "    xs = 1\n" * 40, "L10"), ("def f(xs):\n    return print(xs)\n", "L8"),
            ("class C:\n    def __len__(self):\n        return 3 + 4\n", "L5/L7"),
            ("class C:\n    def __hash__(self):\n        return 3\n", "L5"),
            ("def f(xs):\n    return reversed(xs)\n", "L5"), ("def f(x):\n    try:\n        pass\n"
             "    except ValueError:\n        pass\n", "L19"),
            ("def f(xs):\n    return f(*xs.told())\n", "L7"), ("A = 1\nB = (A, 2)\n", "L3"),
            ("A = {1: f}\n\n\ndef f():\n    return 1\n", "L3"),
            ("def f(xs):\n    for x in xs:\n        xs.append(x)\n", "L23"),
            ("def f(c):\n    for x in enumerate(c.xs):\n        c.xs[0] = x\n", "L23"),
            ("def f(xs):\n    while xs:\n        ys = []\n        for x in xs:\n            ys.append(x)\n"
             "        xs = ys\n", "L23"),
            ("def f(xs, ys):\n    for x in xs or ys:\n        del ys[0]\n", "L23"),
        ]
        for text, rule in cases:
            with self.subTest(text=text):
                ast.parse(text)
                self.assertIn(rule, self.rules(text))
