"""Point 1: what is handed in stays as it is, and what is told is the asker's own."""

import ast
import builtins
import unittest
from copy import deepcopy
from pathlib import Path

from undogates.errors import WireError
from undogates.making import made, made_narrow
from undogates.notes import read, shown
from undogates.rows import shortened, table_of, undone
from undogates.shuffles import behind, contrary, done

from helper import (
    CALLS, SHUFFLE_CALLS, WIRES, Case, all_gates, bad_shuffles, few_shuffles, in_order, is_wrongly_odd, long_row,
    some_rows,
)

PACKAGE = Path(__file__).resolve().parent.parent / "undogates"

# The built-in functions that LANGUAGE.md allows outside __main__.py: none of
# them reaches a clock, chance, a file or the place of an object in memory.
ALLOWED = {
    "len", "range", "enumerate", "zip", "min", "max", "sum", "abs", "sorted", "reversed", "int", "str", "bool",
    "list", "tuple", "dict", "set", "frozenset", "isinstance", "ord", "repr", "any", "all", "divmod",
    "Exception", "ValueError", "TypeError", "KeyError", "IndexError", "LookupError", "ZeroDivisionError",
    "ArithmeticError", "OverflowError", "RuntimeError", "NotImplementedError", "AttributeError", "StopIteration",
}


ROW_TELLERS = (("table_of", table_of), ("undone", undone), ("shortened", shortened))
SHUFFLE_TELLERS = (
    ("behind, as the one", lambda wires, shuffle: behind(wires, shuffle, in_order(wires))),
    ("behind, as the other", lambda wires, shuffle: behind(wires, in_order(wires), shuffle)),
    ("behind, as both", lambda wires, shuffle: behind(wires, shuffle, shuffle)),
    ("contrary", contrary),
    ("done nought times", lambda wires, shuffle: done(wires, shuffle, 0)),
    ("done once", lambda wires, shuffle: done(wires, shuffle, 1)),
    ("done twice", lambda wires, shuffle: done(wires, shuffle, 2)),
    ("made", made),
    ("made_narrow", made_narrow),
)
TEXT_TELLERS = (("read", read),)


def sample_rows(wires):
    gate = ("turn", 0, ())
    return [[], [gate], [gate, gate], all_gates(wires), long_row(wires, 1000)] + some_rows(wires)


def sample_shuffles(wires):
    # Odd ones of four wires are refused by made_narrow: they have tests of their own.
    return [in_order(wires)] + [shuffle for shuffle in few_shuffles(wires) if not is_wrongly_odd(wires, shuffle)]


def sample_texts(wires):
    return [shown(wires, row) for row in sample_rows(wires)]


def asked(calls, samples):
    """Each call with each sample: what it is, the call, the wires, and what is handed in."""
    for name, call in calls:
        for wires in WIRES:
            for number, given in enumerate(samples(wires)):
                yield f"{name} of {wires} wires, sample {number}", call, wires, given


def all_asked():
    yield from asked(CALLS, sample_rows)
    yield from asked(SHUFFLE_CALLS, sample_shuffles)


def all_tellers():
    yield from asked(ROW_TELLERS, sample_rows)
    yield from asked(SHUFFLE_TELLERS, sample_shuffles)
    yield from asked(TEXT_TELLERS, sample_texts)


class TestHandedIn(Case):
    def test_it_is_the_same_after_each_call(self):
        for what, call, wires, given in all_asked():
            with self.subTest(what):
                before = deepcopy(given)
                call(wires, given)
                self.assert_same(given, before)

    def test_two_shuffles_are_the_same_after_behind(self):
        for wires in WIRES:
            for one in few_shuffles(wires):
                for other in few_shuffles(wires):
                    with self.subTest(wires=wires, one=one, other=other):
                        before = deepcopy([one, other])
                        told = behind(wires, one, other)
                        self.assert_same([one, other], before)
                        self.assertIsNot(told, one)
                        self.assertIsNot(told, other)

    def test_a_row_is_the_same_after_a_refusal(self):
        bad_rows = ([("turn", 0, ()), ("swap", 1, 0)], [("turn", 2, (1, 0))] * 2, [("turn", 0, ())] * 1001)
        for name, call in CALLS:
            for wires in (0, 3):
                for row in bad_rows:
                    with self.subTest(name, wires=wires, gate=row[-1]):
                        before = deepcopy(row)
                        with self.assertRaises(WireError):
                            call(wires, row)
                        self.assert_same(row, before)

    def test_a_shuffle_is_the_same_after_a_refusal(self):
        for name, call in SHUFFLE_CALLS:
            for wires in (0, 1, 3, 4):
                for number, shuffle in enumerate(bad_shuffles(wires or 3)):
                    with self.subTest(name, wires=wires, number=number):
                        before = deepcopy(shuffle)
                        with self.assertRaises(WireError):
                            call(wires, shuffle)
                        self.assert_same(shuffle, before)

    def test_a_shuffle_is_the_same_after_odd_and_after_no_times(self):
        shuffle = [1, 0] + in_order(4)[2:]
        before = deepcopy(shuffle)
        with self.assertRaises(WireError):
            made_narrow(4, shuffle)
        with self.assertRaises(WireError):
            done(4, shuffle, -1)
        self.assert_same(shuffle, before)

    def test_a_change_of_it_changes_nothing_told_before(self):
        for what, call, wires, given in all_asked():
            with self.subTest(what):
                told = call(wires, given)
                before = deepcopy(told)
                given.reverse()
                given.append("a change")
                self.assert_same(told, before)

    def test_a_change_of_it_changes_no_later_answer(self):
        for what, call, wires, given in all_asked():
            with self.subTest(what):
                same = deepcopy(given)
                before = deepcopy(call(wires, given))
                given.reverse()
                given.append("a change")
                self.assert_same(call(wires, same), before)

    def test_a_changed_row_is_answered_as_it_now_stands(self):
        row = [("turn", 0, ())]
        first = [call(2, row) for name, call in CALLS]
        self.assert_same(first, [[1, 0, 3, 2], 1, [("turn", 0, ())], [("turn", 0, ())], True, "t0"])
        row.append(("turn", 0, ()))
        second = [call(2, row) for name, call in CALLS]
        self.assert_same(second, [[0, 1, 2, 3], 0, [("turn", 0, ())] * 2, [], True, "t0 t0"])
        row[:] = [("turn", 0, ())]
        self.assert_same([call(2, row) for name, call in CALLS], first)

    def test_a_changed_shuffle_is_answered_as_it_now_stands(self):
        shuffle = [1, 2, 0, 3]
        first = [call(2, shuffle) for name, call in SHUFFLE_CALLS]
        self.assert_same(first[:9], [
            [1, 2, 0, 3], [1, 2, 0, 3], [2, 0, 1, 3], [2, 0, 1, 3], False, 3, [0, 1, 2, 3], [1, 2, 0, 3],
            [0, 1, 2, 3],
        ])
        shuffle[:] = [1, 2, 3, 0]
        second = [call(2, shuffle) for name, call in SHUFFLE_CALLS]
        self.assert_same(second[:9], [
            [1, 2, 3, 0], [1, 2, 3, 0], [2, 3, 0, 1], [3, 0, 1, 2], True, 4, [0, 1, 2, 3], [1, 2, 3, 0],
            [3, 0, 1, 2],
        ])
        self.assert_same([table_of(2, row) for row in first[9:]], [[1, 2, 0, 3]] * 2)
        self.assert_same([table_of(2, row) for row in second[9:]], [[1, 2, 3, 0]] * 2)
        shuffle[:] = [1, 2, 0, 3]
        self.assert_same([call(2, shuffle) for name, call in SHUFFLE_CALLS], first)


class TestTold(Case):
    def test_it_is_never_the_list_handed_in(self):
        for what, call, wires, given in all_tellers():
            with self.subTest(what):
                told = call(wires, given)
                self.assertIs(type(told), list)
                self.assertIsNot(told, given)

    def test_two_answers_are_two_lists(self):
        for what, call, wires, given in all_tellers():
            with self.subTest(what):
                self.assertIsNot(call(wires, given), call(wires, given))

    def test_a_list_holds_no_list(self):
        for what, call, wires, given in all_tellers():
            with self.subTest(what):
                self.assertEqual({type(entry) for entry in call(wires, given)} - {int, tuple}, set())

    def test_a_change_of_what_was_told_changes_no_later_answer(self):
        for what, call, wires, given in all_tellers():
            with self.subTest(what):
                told = call(wires, given)
                before = deepcopy(told)
                same = deepcopy(given)
                told.append("a change")
                told.reverse()
                self.assert_same(given, same)
                self.assert_same(call(wires, given), before)

    def test_other_calls_between_change_no_answer(self):
        asks = [(call, wires, deepcopy(given)) for what, call, wires, given in all_asked()]
        first = [deepcopy(call(wires, given)) for call, wires, given in asks]
        second = [call(wires, given) for call, wires, given in reversed(asks)]
        self.assert_same(second[::-1], first)


class TestNothingFromOutside(unittest.TestCase):
    def trees(self):
        for path in sorted(PACKAGE.rglob("*.py")):
            yield path.name, ast.parse(path.read_text("utf-8"))

    def test_only_the_package_itself_is_imported(self):
        for name, tree in self.trees():
            for node in ast.walk(tree):
                with self.subTest(name):
                    self.assertNotIsInstance(node, ast.Import)
                    if isinstance(node, ast.ImportFrom):
                        self.assertEqual(node.level, 0)
                        self.assertTrue(node.module.startswith("undogates."))

    def test_no_built_in_that_reaches_outside_is_used(self):
        outside = set(dir(builtins)) - ALLOWED
        for name, tree in self.trees():
            used = {node.id for node in ast.walk(tree) if isinstance(node, ast.Name)}
            with self.subTest(name):
                self.assertEqual(used & outside, set())


if __name__ == "__main__":
    unittest.main()
