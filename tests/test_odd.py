"""Point 8: odd and even shuffles, and which rows have an odd table."""

import random
import unittest

from undogates.rows import table_of
from undogates.shuffles import behind, contrary, is_odd

from helper import (
    WIRES, Case, all_gates, few_shuffles, in_order, long_row, many_shuffles, of_rounds, some_rows, with_two_changed,
    wrong_pairs,
)

BY_HAND = (
    (1, [0, 1], False),
    (1, [1, 0], True),
    (2, [0, 1, 2, 3], False),
    (2, [3, 1, 2, 0], True),
    (2, [1, 2, 0, 3], False),
    (2, [1, 0, 3, 2], False),
    (2, [1, 2, 3, 0], True),
    (2, [3, 2, 1, 0], False),
    (3, of_rounds(8), True),
    (3, of_rounds(7, 1), False),
    (3, of_rounds(6, 2), False),
    (3, of_rounds(6, 1, 1), True),
    (3, of_rounds(5, 3), False),
    (3, of_rounds(4, 3, 1), True),
    (3, of_rounds(2, 2, 2, 2), False),
    (3, of_rounds(2, 2, 2, 1, 1), True),
    (4, of_rounds(16), True),
    (4, of_rounds(1, 15), False),
    (4, of_rounds(2, 14), False),
    (4, of_rounds(2, 3, 11), True),
    (4, of_rounds(4, 5, 7), True),
    (4, of_rounds(2, 4, 4, 6), False),
)


def is_odd_gate(wires, gate):
    if gate[0] == "swap":
        return wires == 2
    return len(gate[2]) == wires - 1


def has_odd_table(wires, row):
    return [is_odd_gate(wires, gate) for gate in row].count(True) % 2 == 1


class TestShuffles(Case):
    def test_by_hand(self):
        for wires, shuffle, told in BY_HAND:
            with self.subTest(wires=wires, shuffle=shuffle):
                self.assertIs(is_odd(wires, shuffle), told)

    def test_the_one_in_order_is_even(self):
        for wires in WIRES:
            with self.subTest(wires=wires):
                self.assertIs(is_odd(wires, in_order(wires)), False)

    def test_two_entries_changed_about_are_odd(self):
        for wires in WIRES:
            for shuffle in with_two_changed(wires):
                with self.subTest(wires=wires, shuffle=shuffle):
                    self.assertIs(is_odd(wires, shuffle), True)

    def test_a_change_of_two_entries_more(self):
        source = random.Random(8)
        for wires in WIRES:
            for shuffle in many_shuffles(wires):
                with self.subTest(wires=wires, shuffle=shuffle):
                    before = is_odd(wires, shuffle)
                    one, other = source.sample(in_order(wires), 2)
                    shuffle[one], shuffle[other] = shuffle[other], shuffle[one]
                    self.assertIs(is_odd(wires, shuffle), not before)

    def test_against_the_pairs_that_stand_the_wrong_way_round(self):
        for wires in WIRES:
            for shuffle in many_shuffles(wires, 300):
                with self.subTest(wires=wires, shuffle=shuffle):
                    self.assertIs(is_odd(wires, shuffle), wrong_pairs(shuffle) % 2 == 1)

    def test_the_contrary_one_and_the_one_behind_the_other(self):
        for wires in WIRES:
            for one in few_shuffles(wires):
                self.assertIs(is_odd(wires, contrary(wires, one)), is_odd(wires, one))
                for other in few_shuffles(wires):
                    with self.subTest(wires=wires, one=one, other=other):
                        asked = is_odd(wires, one) != is_odd(wires, other)
                        self.assertIs(is_odd(wires, behind(wires, one, other)), asked)


class TestTables(Case):
    def test_single_gates(self):
        for wires in WIRES:
            for gate in all_gates(wires):
                with self.subTest(wires=wires, gate=gate):
                    self.assertIs(is_odd(wires, table_of(wires, [gate])), is_odd_gate(wires, gate))

    def test_rows(self):
        for wires in WIRES:
            rows = some_rows(wires, 60) + [[], all_gates(wires), long_row(wires, 999), long_row(wires, 1000)]
            # Both answers are asked for, so that one answer to all would be seen.
            self.assertEqual({has_odd_table(wires, row) for row in rows}, {True, False})
            for row in rows:
                with self.subTest(wires=wires, row=row):
                    self.assertIs(is_odd(wires, table_of(wires, row)), has_odd_table(wires, row))

    def test_one_gate_after_the_other(self):
        for wires in WIRES:
            odd = [gate for gate in all_gates(wires) if is_odd_gate(wires, gate)]
            for many in range(12):
                row = (odd * many)[:many]
                with self.subTest(wires=wires, many=many):
                    self.assertIs(is_odd(wires, table_of(wires, row)), many % 2 == 1)


if __name__ == "__main__":
    unittest.main()
