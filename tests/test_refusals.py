"""Points 2 and 3: which wires, gates and rows are taken, and which refused."""

import unittest

from undogates.errors import NoGate, NoWires
from undogates.rows import led

from helper import CALLS, NO_WIRES, STATES, WIRES, Case, all_gates, all_swaps, all_turns, long_row

FAR = 10 ** 5000


def bad_turns(wires):
    beyond = [("turn", number, ()) for number in (-1, -wires, wires, wires + 1, 16, FAR, -FAR)]
    itself = [("turn", wire, (wire,)) for wire in range(wires)]
    strange = [("turn", 0, (number,)) for number in (-1, -wires, wires, wires + 1, 16, FAR, -FAR)]
    gates = beyond + itself + strange
    if wires >= 2:
        gates += [
            ("turn", 0, (1, 1)),
            ("turn", 0, (0, 1)),
            ("turn", 1, (0, 1)),
            ("turn", 1, (0, wires)),
            ("turn", 1, (-1, 0)),
            ("turn", -1, (0,)),
            ("turn", wires, (0, 1)),
        ]
    if wires >= 3:
        gates += [
            ("turn", 0, (2, 1)),
            ("turn", 1, (2, 0)),
            ("turn", 0, (1, 2, 2)),
            ("turn", 0, (1, 1, 2)),
            ("turn", 0, (1, 2, 1)),
            ("turn", 1, (0, 1, 2)),
            ("turn", 0, (1, 2, wires)),
        ]
    if wires >= 4:
        gates += [
            ("turn", 0, (1, 3, 2)),
            ("turn", 0, (2, 1, 3)),
            ("turn", 0, (3, 2, 1)),
            ("turn", 3, (0, 1, 2, 3)),
            ("turn", 3, (-1, 0, 1, 2)),
        ]
    return gates


def bad_swaps(wires):
    itself = [("swap", wire, wire) for wire in range(wires)]
    greater_first = [("swap", other, one) for name, one, other in all_swaps(wires)]
    beyond = [("swap", 0, number) for number in (wires, wires + 1, 16, FAR)]
    below = [("swap", number, 0) for number in (-1, -wires, -FAR)]
    outside = [("swap", wires, wires + 1), ("swap", -2, -1), ("swap", -1, wires), ("swap", 0, -1), ("swap", wires, 0)]
    return itself + greater_first + beyond + below + outside


def bad_gates(wires):
    return bad_turns(wires) + bad_swaps(wires)


class TestWires(Case):
    def test_one_to_four_wires_are_taken(self):
        for name, call in CALLS:
            for wires in WIRES:
                with self.subTest(name, wires=wires):
                    call(wires, [])
                    call(wires, [("turn", wires - 1, ())])

    def test_another_number_is_refused(self):
        for name, call in CALLS:
            for place, wires in enumerate(NO_WIRES):
                with self.subTest(name, place=place):
                    self.assert_refused(NoWires, call, wires, [])
                    self.assert_refused(NoWires, call, wires, [("turn", 0, ())])

    def test_no_wires_comes_ahead_of_no_gate(self):
        bad_rows = ([("turn", -1, ())], [("swap", 1, 1)], [("turn", 0, (0,))], [("turn", 0, ())] * 1001)
        for name, call in CALLS:
            for place, wires in enumerate(NO_WIRES):
                for row in bad_rows:
                    with self.subTest(name, place=place, gate=row[0]):
                        self.assert_refused(NoWires, call, wires, row)

    def test_led_refuses_wires_at_any_state(self):
        for wires in (0, 5):
            for state in range(16):
                with self.subTest(wires=wires, state=state):
                    self.assert_refused(NoWires, led, wires, [], state)


class TestGates(Case):
    def test_how_many_gates_there_are(self):
        # Each wire watches any choice of the others; each two wires swap.
        counts = [(len(all_turns(wires)), len(all_swaps(wires))) for wires in WIRES]
        self.assertEqual(counts, [(1, 0), (4, 1), (12, 3), (32, 6)])

    def test_each_gate_of_the_wires_is_taken(self):
        for name, call in CALLS:
            for wires in WIRES:
                for gate in all_gates(wires):
                    with self.subTest(name, wires=wires, gate=gate):
                        call(wires, [gate])

    def test_a_gate_that_is_none_of_the_wires_is_refused_at_each_place(self):
        good = [("turn", 0, ())] * 2
        for name, call in CALLS:
            for wires in WIRES:
                for number, gate in enumerate(bad_gates(wires)):
                    for row in ([gate], [gate] + good, good[:1] + [gate] + good[1:], good + [gate], [gate, gate]):
                        with self.subTest(name, wires=wires, number=number, place=row.index(gate)):
                            self.assert_refused(NoGate, call, wires, row)

    def test_a_gate_of_more_wires_only_is_refused(self):
        for name, call in CALLS:
            for wires in (1, 2, 3):
                for gate in all_gates(wires + 1):
                    if gate not in all_gates(wires):
                        with self.subTest(name, wires=wires, gate=gate):
                            self.assert_refused(NoGate, call, wires, [gate])

    def test_led_refuses_a_gate_at_any_state(self):
        for state in range(STATES[3]):
            with self.subTest(state=state):
                self.assert_refused(NoGate, led, 3, [("turn", 0, (1, 3))], state)
                self.assert_refused(NoGate, led, 3, [("swap", 2, 1)], state)


class TestLength(Case):
    def test_a_row_of_1000_gates_is_taken(self):
        for name, call in CALLS:
            for wires in WIRES:
                with self.subTest(name, wires=wires):
                    call(wires, long_row(wires, 999))
                    call(wires, long_row(wires, 1000))

    def test_a_longer_row_is_refused(self):
        for name, call in CALLS:
            for wires in WIRES:
                for length in (1001, 1002, 2000):
                    with self.subTest(name, wires=wires, length=length):
                        self.assert_refused(NoGate, call, wires, long_row(wires, length))
                        self.assert_refused(NoGate, call, wires, [("turn", 0, ())] * length)

    def test_a_bad_gate_in_a_row_of_1000_is_refused_at_each_place(self):
        for name, call in CALLS:
            for place in (0, 1, 500, 998, 999):
                with self.subTest(name, place=place):
                    row = long_row(3, 1000)
                    row[place] = ("turn", 3, ())
                    self.assert_refused(NoGate, call, 3, row)


if __name__ == "__main__":
    unittest.main()
