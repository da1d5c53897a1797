"""What several tests need: gates, rows, and a second account of what they do."""

import random
import unittest
from itertools import combinations

from undogates.rows import is_narrow, led, shortened, table_of, undone

WIRES = (1, 2, 3, 4)
STATES = {1: 2, 2: 4, 3: 8, 4: 16}
NO_WIRES = (0, 5, -1, -4, 6, 16, 1000, 10 ** 40, -10 ** 40, 10 ** 5000, -10 ** 5000)

# Each function as one of wires and row alone; led is asked of the state nought.
CALLS = (
    ("table_of", table_of),
    ("led", lambda wires, row: led(wires, row, 0)),
    ("undone", undone),
    ("shortened", shortened),
    ("is_narrow", is_narrow),
)


def all_turns(wires):
    turns = []
    for wire in range(wires):
        others = [other for other in range(wires) if other != wire]
        for many in range(wires):
            turns += [("turn", wire, watched) for watched in combinations(others, many)]
    return turns


def all_swaps(wires):
    return [("swap", one, other) for one, other in combinations(range(wires), 2)]


def all_gates(wires):
    return all_turns(wires) + all_swaps(wires)


def some_rows(wires, many=12):
    """Rows that are the same at each run, of nought to 60 gates."""
    source = random.Random(wires)
    gates = all_gates(wires)
    return [[source.choice(gates) for _ in range(source.randrange(61))] for _ in range(many)]


def long_row(wires, length):
    gates = all_gates(wires)
    return [gates[place % len(gates)] for place in range(length)]


def wires_of(wires, state):
    """The wires from the first to the last, each "up" or "down"."""
    return ["up" if digit == "1" else "down" for digit in reversed(format(state, "b").zfill(wires))]


def state_of(ups):
    return sum(worth for worth, up in zip((1, 2, 4, 8), ups) if up == "up")


def stepped(wires, gate, state):
    """What a gate does, told anew wire by wire."""
    ups = wires_of(wires, state)
    kind, first, second = gate
    if kind == "swap":
        ups[first], ups[second] = ups[second], ups[first]
    elif "down" not in [ups[watched] for watched in second]:
        ups[first] = {"up": "down", "down": "up"}[ups[first]]
    return state_of(ups)


def expected_table(wires, row):
    table = []
    for state in range(STATES[wires]):
        for gate in row:
            state = stepped(wires, gate, state)
        table.append(state)
    return table


class RowCase(unittest.TestCase):
    def assert_same(self, told, asked):
        # Unlike assertEqual it shows no differences: of two rows of 1000
        # gates unittest would seek them for many minutes.
        if told != asked:
            self.fail(f"told {told!r:.400}, asked {asked!r:.400}")
