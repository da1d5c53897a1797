"""Point 6: the shortened row."""

import random
import unittest

from undogates.rows import shortened, table_of, undone

from helper import WIRES, Case, all_gates, long_row, some_rows

A = ("turn", 0, ())
B = ("turn", 1, (0,))
C = ("swap", 0, 1)
D = ("turn", 2, (0, 1))

# A row of three wires, and what is left of it.
BY_HAND = (
    ([], []),
    ([A], [A]),
    ([A, A], []),
    ([A, A, A], [A]),
    ([C, C, C, C], []),
    ([C, C, C, C, C], [C]),
    ([A, B, B, A], []),
    ([A, B, C, D, D, C, B, A], []),
    ([A, B, C, C, B, D], [A, D]),
    ([A, A, B, B, C, C], []),
    ([A, A, B, C, C], [B]),
    ([A, B, B, C, C, A], []),
    ([D, A, A, D, D, B, B], [D]),
    ([A, B, A, B], [A, B, A, B]),
    ([A, B, A], [A, B, A]),
    ([A, B, C, D], [A, B, C, D]),
    ([A, A, B, C, D, D], [B, C]),
    ([B, A, A, A, B], [B, A, B]),
    ([B, A, A, A, A, B], []),
)

# Gates that do the same wire or the same two wires, and are not the same gate.
UNLIKE = (
    [("turn", 0, ()), ("turn", 0, (1,))],
    [("turn", 0, (1,)), ("turn", 0, (2,))],
    [("turn", 0, (1,)), ("turn", 0, (1, 2))],
    [("turn", 0, (1, 2)), ("turn", 1, (0, 2))],
    [("turn", 1, (0,)), ("turn", 2, (0,))],
    [("swap", 0, 1), ("swap", 0, 2)],
    [("swap", 0, 2), ("swap", 1, 2)],
    [("swap", 0, 1), ("turn", 0, (1,))],
)


def shortened_anyhow(row, source):
    """The row, with same neighbours left out in an order of chance."""
    row = list(row)
    while True:
        places = [place for place in range(len(row) - 1) if row[place] == row[place + 1]]
        if not places:
            return row
        place = source.choice(places)
        row = row[:place] + row[place + 2:]


def rows_of_few_gates(wires):
    source = random.Random(10 + wires)
    gates = all_gates(wires)[:3]
    return [[source.choice(gates) for _ in range(40)] for _ in range(30)]


class TestShortened(Case):
    def test_rows_by_hand(self):
        for row, left in BY_HAND:
            with self.subTest(row=row):
                self.assert_same(shortened(3, row), left)

    def test_unlike_neighbours_stay(self):
        for row in UNLIKE:
            with self.subTest(row=row):
                self.assert_same(shortened(3, row), row)
                self.assert_same(shortened(3, row[::-1]), row[::-1])

    def test_runs_of_one_gate(self):
        for wires in WIRES:
            for gate in all_gates(wires):
                for length in range(8):
                    with self.subTest(wires=wires, gate=gate, length=length):
                        self.assert_same(shortened(wires, [gate] * length), [gate] * (length % 2))

    def test_equal_gates_that_are_two_objects_are_the_same(self):
        row = [("turn", 2, tuple([0, 1])), ("turn", 2, tuple([0, 1]))]
        self.assert_same(shortened(3, row), [])

    def test_the_order_of_leaving_out_is_free(self):
        source = random.Random(6)
        for wires in WIRES:
            for row in rows_of_few_gates(wires) + some_rows(wires):
                for _ in range(4):
                    with self.subTest(wires=wires, row=row):
                        self.assert_same(shortened(wires, row), shortened_anyhow(row, source))

    def test_no_same_neighbours_are_left_and_the_table_stays(self):
        for wires in WIRES:
            for row in rows_of_few_gates(wires) + some_rows(wires):
                with self.subTest(wires=wires, row=row):
                    left = shortened(wires, row)
                    self.assertIs(type(left), list)
                    self.assertNotIn(True, [one == other for one, other in zip(left, left[1:])])
                    self.assert_same(table_of(wires, left), table_of(wires, row))

    def test_a_row_with_its_undone_row_behind_it_is_left_empty(self):
        for wires in WIRES:
            for row in some_rows(wires):
                with self.subTest(wires=wires, row=row):
                    self.assert_same(shortened(wires, row + undone(wires, row)), [])


class TestThousandGates(Case):
    def test_one_gate_a_thousand_times(self):
        self.assert_same(shortened(1, [A] * 1000), [])
        self.assert_same(shortened(1, [A] * 999), [A])

    def test_nested_pairs(self):
        half = long_row(4, 500)
        self.assert_same(shortened(4, half + half[::-1]), [])

    def test_nothing_to_leave_out(self):
        for wires in (2, 3, 4):
            with self.subTest(wires=wires):
                row = long_row(wires, 1000)
                self.assert_same(shortened(wires, row), row)

    def test_some_to_leave_out(self):
        row = [A, B, C, C] * 250
        left = shortened(2, row)
        self.assert_same(left, [A, B] * 250)
        self.assert_same(table_of(2, left), table_of(2, row))


if __name__ == "__main__":
    unittest.main()
