"""Point 11, its first sentence: narrow rows."""

import unittest

from undogates.rows import is_narrow

from helper import WIRES, all_gates, all_swaps, all_turns, long_row

WIDE = (
    ("turn", 0, (1, 2, 3)),
    ("turn", 1, (0, 2, 3)),
    ("turn", 2, (0, 1, 3)),
    ("turn", 3, (0, 1, 2)),
)


class TestNarrow(unittest.TestCase):
    def test_the_empty_row_is_narrow(self):
        for wires in WIRES:
            with self.subTest(wires=wires):
                self.assertIs(is_narrow(wires, []), True)

    def test_each_row_of_one_to_three_wires_is_narrow(self):
        for wires in (1, 2, 3):
            with self.subTest(wires=wires):
                self.assertIs(is_narrow(wires, all_gates(wires)), True)
                self.assertIs(is_narrow(wires, long_row(wires, 1000)), True)

    def test_single_gates_of_four_wires(self):
        for gate in all_turns(4):
            with self.subTest(gate=gate):
                self.assertIs(is_narrow(4, [gate]), gate not in WIDE)
        for gate in all_swaps(4):
            with self.subTest(gate=gate):
                self.assertIs(is_narrow(4, [gate]), True)

    def test_one_wide_gate_at_any_place(self):
        narrow = [("turn", 3, (1, 2)), ("swap", 2, 3), ("turn", 0, ())]
        self.assertIs(is_narrow(4, narrow), True)
        for gate in WIDE:
            for place in range(4):
                with self.subTest(gate=gate, place=place):
                    self.assertIs(is_narrow(4, narrow[:place] + [gate] + narrow[place:]), False)

    def test_rows_of_1000_gates(self):
        narrow = [("turn", 3, (1, 2)), ("swap", 2, 3)] * 500
        self.assertIs(is_narrow(4, narrow), True)
        for place in (0, 500, 999):
            with self.subTest(place=place):
                self.assertIs(is_narrow(4, narrow[:place] + [WIDE[0]] + narrow[place + 1:]), False)

    def test_a_pair_of_wide_gates_is_not_narrow(self):
        # The row is asked as it stands, not as it is shortened.
        self.assertIs(is_narrow(4, [WIDE[3], WIDE[3]]), False)


if __name__ == "__main__":
    unittest.main()
