"""Point 1: what is handed in stays as it is, and what is told is the asker's own."""

import ast
import builtins
import unittest
from copy import deepcopy
from pathlib import Path

from undogates.errors import WireError
from undogates.rows import led, shortened, table_of, undone

from helper import CALLS, WIRES, RowCase, all_gates, long_row, some_rows

PACKAGE = Path(__file__).resolve().parent.parent / "undogates"
TELL_LISTS = (("table_of", table_of), ("undone", undone), ("shortened", shortened))

# The built-in functions that LANGUAGE.md allows outside __main__.py: none of
# them reaches a clock, chance, a file or the place of an object in memory.
ALLOWED = {
    "len", "range", "enumerate", "zip", "min", "max", "sum", "abs", "sorted", "reversed", "int", "str", "bool",
    "list", "tuple", "dict", "set", "frozenset", "isinstance", "ord", "repr", "any", "all", "divmod",
    "Exception", "ValueError", "TypeError", "KeyError", "IndexError", "LookupError", "ZeroDivisionError",
    "ArithmeticError", "OverflowError", "RuntimeError", "NotImplementedError", "AttributeError", "StopIteration",
}


def sample_rows(wires):
    gate = ("turn", 0, ())
    return [[], [gate], [gate, gate], all_gates(wires), long_row(wires, 1000)] + some_rows(wires)


class TestHandedIn(RowCase):
    def test_the_row_is_the_same_after_each_call(self):
        for name, call in CALLS:
            for wires in WIRES:
                for row in sample_rows(wires):
                    with self.subTest(name, wires=wires, row=row):
                        before = deepcopy(row)
                        call(wires, row)
                        self.assert_same(row, before)

    def test_the_row_is_the_same_after_a_refusal(self):
        bad_rows = ([("turn", 0, ()), ("swap", 1, 0)], [("turn", 2, (1, 0))] * 2, [("turn", 0, ())] * 1001)
        for name, call in CALLS:
            for wires in (0, 3):
                for row in bad_rows:
                    with self.subTest(name, wires=wires, gate=row[-1]):
                        before = deepcopy(row)
                        with self.assertRaises(WireError):
                            call(wires, row)
                        self.assert_same(row, before)

    def test_a_change_of_the_row_changes_nothing_told_before(self):
        for name, call in CALLS:
            for wires in WIRES:
                for row in sample_rows(wires):
                    with self.subTest(name, wires=wires, row=row):
                        told = call(wires, row)
                        before = deepcopy(told)
                        row[:] = [("turn", 0, ())]
                        self.assert_same(told, before)

    def test_a_changed_row_is_answered_as_it_now_stands(self):
        row = [("turn", 0, ())]
        first = [call(2, row) for name, call in CALLS]
        self.assert_same(first, [[1, 0, 3, 2], 1, [("turn", 0, ())], [("turn", 0, ())], True])
        row.append(("turn", 0, ()))
        second = [call(2, row) for name, call in CALLS]
        self.assert_same(second, [[0, 1, 2, 3], 0, [("turn", 0, ())] * 2, [], True])
        row[:] = [("turn", 0, ())]
        self.assert_same([call(2, row) for name, call in CALLS], first)


class TestTold(RowCase):
    def test_what_is_told_is_never_the_list_handed_in(self):
        for name, call in TELL_LISTS:
            for wires in WIRES:
                for row in sample_rows(wires):
                    with self.subTest(name, wires=wires, row=row):
                        self.assertIsNot(call(wires, row), row)

    def test_two_answers_are_two_lists(self):
        for name, call in TELL_LISTS:
            for wires in WIRES:
                for row in sample_rows(wires):
                    with self.subTest(name, wires=wires, row=row):
                        self.assertIsNot(call(wires, row), call(wires, row))

    def test_a_change_of_what_was_told_changes_no_later_answer(self):
        for name, call in TELL_LISTS:
            for wires in WIRES:
                for row in sample_rows(wires):
                    with self.subTest(name, wires=wires, row=row):
                        told = call(wires, row)
                        before = deepcopy(told)
                        given = deepcopy(row)
                        told.append("a change")
                        told.reverse()
                        self.assert_same(row, given)
                        self.assert_same(call(wires, row), before)

    def test_other_calls_between_change_no_answer(self):
        row = [("turn", 0, (1,)), ("swap", 0, 1)]
        before = [call(2, row) for name, call in CALLS]
        for wires in WIRES:
            for other in sample_rows(wires):
                for name, call in CALLS:
                    call(wires, other)
                led(wires, other, 1)
        self.assert_same([call(2, row) for name, call in CALLS], before)


class TestNothingFromOutside(unittest.TestCase):
    def trees(self):
        for path in sorted(PACKAGE.rglob("*.py")):
            yield path.name, ast.parse(path.read_text("utf-8"))

    def test_only_the_package_itself_is_imported(self):
        for name, tree in self.trees():
            for node in ast.walk(tree):
                with self.subTest(name):
                    self.assertNotIsInstance(node, ast.Import)
                    if isinstance(node, ast.ImportFrom):
                        self.assertEqual(node.level, 0)
                        self.assertTrue(node.module.startswith("undogates."))

    def test_no_built_in_that_reaches_outside_is_used(self):
        outside = set(dir(builtins)) - ALLOWED
        for name, tree in self.trees():
            used = {node.id for node in ast.walk(tree) if isinstance(node, ast.Name)}
            with self.subTest(name):
                self.assertEqual(used & outside, set())


if __name__ == "__main__":
    unittest.main()
