"""The interface: each function under its name, with its arguments."""

import inspect
import unittest

from undogates import making, notes, rows, shuffles

ARGUMENTS = (
    (rows, "table_of", ["wires", "row"]),
    (rows, "led", ["wires", "row", "state"]),
    (rows, "undone", ["wires", "row"]),
    (rows, "shortened", ["wires", "row"]),
    (rows, "is_narrow", ["wires", "row"]),
    (shuffles, "behind", ["wires", "one", "other"]),
    (shuffles, "contrary", ["wires", "shuffle"]),
    (shuffles, "is_odd", ["wires", "shuffle"]),
    (shuffles, "order_of", ["wires", "shuffle"]),
    (shuffles, "done", ["wires", "shuffle", "times"]),
    (making, "made", ["wires", "shuffle"]),
    (making, "made_narrow", ["wires", "shuffle"]),
    (notes, "shown", ["wires", "row"]),
    (notes, "read", ["wires", "text"]),
)


class TestInterface(unittest.TestCase):
    def test_each_function_has_its_arguments(self):
        for module, name, arguments in ARGUMENTS:
            with self.subTest(name):
                self.assertEqual(list(inspect.signature(getattr(module, name)).parameters), arguments)


if __name__ == "__main__":
    unittest.main()
