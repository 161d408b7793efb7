import unittest

from coretower.steps import holds, worth_of

VALUES = {"a": 1, "b": 2, "c": 4, "z": 0}


class WorthTest(unittest.TestCase):
    def test_the_sum_modulo_the_base(self):
        for worth, base, value in (((3,), 5, 3), ((3,), 3, 0), ((9, 9), 4, 2), (("a",), 2, 1), (("b",), 2, 0),
                                   (("a", "b", 9), 5, 2), (("c", "c", "c"), 5, 2), (("z",), 5, 0), ((0,), 2, 0)):
            self.assertEqual(worth_of(worth, VALUES, base), value)

    def test_without_a_base_the_sum_itself(self):
        self.assertEqual(worth_of(("c",), {"c": 17}, None), 17)
        self.assertEqual(worth_of((0,), {}, None), 0)
        self.assertEqual(worth_of((9, 9, "c"), VALUES, None), 22)


class HoldsTest(unittest.TestCase):
    def test_none_always_holds(self):
        self.assertIs(holds(None, {}, 2), True)
        self.assertIs(holds(None, {}, None), True)

    def test_each_sign_with_a_base(self):
        for left in range(5):
            for right in range(5):
                values = {"x": left, "y": right}
                for worth in ((right,), ("y",), ("y", 5), (right, 3, 2)):
                    self.assertIs(holds(("x", "=", worth), values, 5), left == right)
                    self.assertIs(holds(("x", "!", worth), values, 5), left != right)
                    self.assertIs(holds(("x", "<", worth), values, 5), left < right)

    def test_each_sign_without_a_base(self):
        values = {"x": 7, "y": 7, "z": 8}
        self.assertIs(holds(("x", "=", ("y",)), values, None), True)
        self.assertIs(holds(("x", "=", ("z",)), values, None), False)
        self.assertIs(holds(("x", "!", ("z",)), values, None), True)
        self.assertIs(holds(("x", "!", ("y",)), values, None), False)
        self.assertIs(holds(("x", "=", (0,)), values, None), False)
        self.assertIs(holds(("x", "!", (0,)), values, None), True)
        self.assertIs(holds(("x", "<", ("y", 1)), values, None), True)
        self.assertIs(holds(("x", "<", ("y",)), values, None), False)


if __name__ == "__main__":
    unittest.main()
