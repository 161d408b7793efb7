import unittest

from coretower.errors import BadNumber
from coretower.shapes import Clears, Latch, Looks, Meter, Shape, Ticket, Tops, Ups, table_of
from coretower.tables import Table

ROWS = {
    "look": lambda size: [(state, state) for state in range(size)],
    "up": lambda size: [(state, state + 1) for state in range(size - 1)] + [(size - 1, 0)],
    "top": lambda size: [(0, size - 1) for _ in range(size - 1)] + [(1, size - 1)],
    "clear": lambda size: [(0, 0) for _ in range(size)],
}
NAMES = {Shape: [], Looks: ["look"], Ups: ["up"], Tops: ["top"], Clears: ["clear"], Ticket: ["up", "look"],
         Latch: ["clear", "top"], Meter: ["clear", "up", "look"]}


class ShapesTest(unittest.TestCase):
    def test_rows_of_every_class_at_each_size(self):
        for kind, names in NAMES.items():
            for size in range(1, 10):
                shape = kind(size)
                self.assertEqual(shape.size, size)
                self.assertEqual(list(shape.rows()), names)
                self.assertEqual(shape.rows(), {name: ROWS[name](size) for name in names})

    def test_other_sizes(self):
        for kind in NAMES:
            for size in (0, 10, -1, True, None, "3"):
                with self.assertRaises(BadNumber) as caught:
                    kind(size)
                self.assertIs(caught.exception.number, size)

    def test_bases(self):
        for kind, bases in ((Looks, (Shape,)), (Ups, (Shape,)), (Tops, (Shape,)), (Clears, (Shape,)),
                            (Ticket, (Looks, Ups)), (Latch, (Tops, Clears)), (Meter, (Looks, Ups, Clears))):
            self.assertEqual(kind.__bases__, bases)
            self.assertIn("rows", vars(kind))

    def test_own_bases_put_together(self):
        class Every(Clears, Tops, Looks, Ups):
            pass
        self.assertEqual(list(Every(4).rows()), ["up", "look", "top", "clear"])

    def test_rows_are_new_each_time(self):
        for kind, names in NAMES.items():
            shape = kind(2)
            rows = shape.rows()
            for row in rows.values():
                row.clear()
            rows["more"] = []
            self.assertEqual(shape.rows(), {name: ROWS[name](2) for name in names})

    def test_table_of(self):
        table = table_of(Meter(3))
        self.assertIsInstance(table, Table)
        self.assertEqual((table.names(), table.size, table.first), (["clear", "up", "look"], 3, 0))
        self.assertEqual(table.answers(["up", "up", "look", "up", "up", "clear", "look"]), [0, 1, 2, 2, 0, 0, 0])
        self.assertEqual(table_of(Latch(2)).answers(["top", "top", "clear", "top"]), [0, 1, 0, 0])
        self.assertEqual(table_of(Latch(1)).answers(["top", "clear", "top"]), [1, 0, 1])


if __name__ == "__main__":
    unittest.main()
