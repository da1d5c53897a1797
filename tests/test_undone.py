"""Point 5: the undone row."""

import unittest

from undogates.rows import led, table_of, undone

from helper import STATES, WIRES, Case, all_gates, long_row, some_rows


class TestUndone(Case):
    def test_rows_by_hand(self):
        self.assert_same(undone(1, []), [])
        self.assert_same(undone(2, [("swap", 0, 1)]), [("swap", 0, 1)])
        self.assert_same(
            undone(3, [("turn", 0, ()), ("swap", 0, 2), ("turn", 2, (0, 1))]),
            [("turn", 2, (0, 1)), ("swap", 0, 2), ("turn", 0, ())],
        )
        # Same neighbours stay: an undone row is not shortened.
        self.assert_same(
            undone(2, [("turn", 1, ()), ("turn", 1, ()), ("turn", 0, (1,))]),
            [("turn", 0, (1,)), ("turn", 1, ()), ("turn", 1, ())],
        )

    def test_the_gates_stand_from_the_last_to_the_first(self):
        for wires in WIRES:
            for row in some_rows(wires) + [all_gates(wires), long_row(wires, 1000)]:
                with self.subTest(wires=wires, row=row):
                    self.assert_same(undone(wires, row), row[::-1])
                    self.assertIs(type(undone(wires, row)), list)

    def test_behind_the_row_it_leads_each_state_back(self):
        for wires in WIRES:
            for row in some_rows(wires) + [all_gates(wires), long_row(wires, 1000)]:
                back = undone(wires, row)
                for state in range(STATES[wires]):
                    with self.subTest(wires=wires, row=row, state=state):
                        self.assert_same(led(wires, back, led(wires, row, state)), state)
                        self.assert_same(led(wires, row, led(wires, back, state)), state)

    def test_a_row_with_its_undone_row_behind_it_has_the_empty_rows_table(self):
        for wires in WIRES:
            for row in some_rows(wires) + [long_row(wires, 500)]:
                with self.subTest(wires=wires, row=row):
                    self.assert_same(table_of(wires, row + undone(wires, row)), list(range(STATES[wires])))


if __name__ == "__main__":
    unittest.main()
