"""Points 2, 3 and 4: the states, what a gate does, and the table of a row."""

import unittest

from undogates.rows import led, table_of

from helper import STATES, WIRES, all_gates, expected_table, long_row, some_rows

# Wires, a row, and its table worked out by hand.
BY_HAND = (
    (1, [("turn", 0, ())], [1, 0]),
    (2, [("turn", 0, ())], [1, 0, 3, 2]),
    (2, [("turn", 1, ())], [2, 3, 0, 1]),
    (2, [("turn", 0, (1,))], [0, 1, 3, 2]),
    (2, [("turn", 1, (0,))], [0, 3, 2, 1]),
    (2, [("swap", 0, 1)], [0, 2, 1, 3]),
    (3, [("turn", 0, ())], [1, 0, 3, 2, 5, 4, 7, 6]),
    (3, [("turn", 2, ())], [4, 5, 6, 7, 0, 1, 2, 3]),
    (3, [("turn", 0, (2,))], [0, 1, 2, 3, 5, 4, 7, 6]),
    (3, [("turn", 2, (0,))], [0, 5, 2, 7, 4, 1, 6, 3]),
    (3, [("turn", 2, (0, 1))], [0, 1, 2, 7, 4, 5, 6, 3]),
    (3, [("turn", 1, (0, 2))], [0, 1, 2, 3, 4, 7, 6, 5]),
    (3, [("swap", 0, 2)], [0, 4, 2, 6, 1, 5, 3, 7]),
    (3, [("swap", 1, 2)], [0, 1, 4, 5, 2, 3, 6, 7]),
    (4, [("turn", 3, ())], [8, 9, 10, 11, 12, 13, 14, 15, 0, 1, 2, 3, 4, 5, 6, 7]),
    (4, [("turn", 3, (0, 1, 2))], [0, 1, 2, 3, 4, 5, 6, 15, 8, 9, 10, 11, 12, 13, 14, 7]),
    (4, [("turn", 0, (1, 2, 3))], [0, 1, 2, 3, 4, 5, 6, 7, 8, 9, 10, 11, 12, 13, 15, 14]),
    (4, [("turn", 1, (0, 3))], [0, 1, 2, 3, 4, 5, 6, 7, 8, 11, 10, 9, 12, 15, 14, 13]),
    (4, [("swap", 0, 3)], [0, 8, 2, 10, 4, 12, 6, 14, 1, 9, 3, 11, 5, 13, 7, 15]),
    # The first gate is done first: turned about, each of these has another table.
    (2, [("turn", 0, ()), ("turn", 1, (0,))], [3, 0, 1, 2]),
    (2, [("turn", 1, (0,)), ("turn", 0, ())], [1, 2, 3, 0]),
    (2, [("turn", 0, ()), ("swap", 0, 1)], [2, 0, 3, 1]),
    (2, [("turn", 0, (1,)), ("turn", 1, (0,)), ("turn", 0, (1,))], [0, 2, 1, 3]),
    (3, [("swap", 0, 1), ("swap", 1, 2)], [0, 4, 1, 5, 2, 6, 3, 7]),
    (3, [("turn", 2, (0, 1)), ("turn", 1, (0,)), ("turn", 0, ())], [1, 2, 3, 4, 5, 6, 7, 0]),
)


class TestTables(unittest.TestCase):
    def test_the_empty_row_leads_each_state_to_itself(self):
        for wires, many in ((1, 2), (2, 4), (3, 8), (4, 16)):
            with self.subTest(wires=wires):
                self.assertEqual(table_of(wires, []), list(range(many)))

    def test_tables_worked_out_by_hand(self):
        for wires, row, table in BY_HAND:
            with self.subTest(wires=wires, row=row):
                self.assertEqual(table_of(wires, row), table)

    def test_each_single_gate(self):
        for wires in WIRES:
            for gate in all_gates(wires):
                with self.subTest(wires=wires, gate=gate):
                    self.assertEqual(table_of(wires, [gate]), expected_table(wires, [gate]))

    def test_rows_of_two_gates(self):
        for wires in (1, 2, 3):
            for first in all_gates(wires):
                for second in all_gates(wires):
                    with self.subTest(wires=wires, first=first, second=second):
                        row = [first, second]
                        self.assertEqual(table_of(wires, row), expected_table(wires, row))

    def test_longer_rows(self):
        for wires in WIRES:
            for row in some_rows(wires) + [long_row(wires, 1000)]:
                with self.subTest(wires=wires, row=row):
                    self.assertEqual(table_of(wires, row), expected_table(wires, row))

    def test_no_two_states_are_brought_to_one(self):
        for wires in WIRES:
            for row in some_rows(wires):
                with self.subTest(wires=wires, row=row):
                    self.assertEqual(sorted(table_of(wires, row)), list(range(STATES[wires])))

    def test_a_table_is_a_list_of_whole_numbers(self):
        for wires in WIRES:
            for row in ([], all_gates(wires)):
                with self.subTest(wires=wires, row=row):
                    table = table_of(wires, row)
                    self.assertIs(type(table), list)
                    self.assertEqual({type(state) for state in table}, {int})


class TestLed(unittest.TestCase):
    def test_single_gates_by_hand(self):
        self.assertEqual(led(4, [("turn", 2, (0, 1))], 11), 15)
        self.assertEqual(led(4, [("turn", 2, (0, 1))], 9), 9)
        self.assertEqual(led(4, [("turn", 2, ())], 15), 11)
        self.assertEqual(led(4, [("swap", 1, 3)], 2), 8)
        self.assertEqual(led(4, [("swap", 1, 3)], 10), 10)
        self.assertEqual(led(1, [], 1), 1)

    def test_led_agrees_with_the_table_at_each_state(self):
        for wires in WIRES:
            rows = [[]] + [[gate] for gate in all_gates(wires)] + some_rows(wires) + [long_row(wires, 1000)]
            for row in rows:
                with self.subTest(wires=wires, row=row):
                    states = [led(wires, row, state) for state in range(STATES[wires])]
                    self.assertEqual(states, table_of(wires, row))
                    self.assertEqual({type(state) for state in states}, {int})


if __name__ == "__main__":
    unittest.main()
