"""What several tests need: gates, rows, shuffles, and a second account of what they do."""

import random
import unittest
from itertools import combinations, permutations

from undogates.making import made, made_narrow
from undogates.notes import shown
from undogates.rows import is_narrow, led, shortened, table_of, undone
from undogates.shuffles import behind, contrary, done, is_odd, order_of

WIRES = (1, 2, 3, 4)
STATES = {1: 2, 2: 4, 3: 8, 4: 16}
NO_WIRES = (0, 5, -1, -4, 6, 16, 1000, 10 ** 40, -10 ** 40, 10 ** 5000, -10 ** 5000)

# Each function as one of wires and row alone; led is asked of the state nought.
CALLS = (
    ("table_of", table_of),
    ("led", lambda wires, row: led(wires, row, 0)),
    ("undone", undone),
    ("shortened", shortened),
    ("is_narrow", is_narrow),
    ("shown", shown),
)

# Each place where a shuffle is handed in, as a function of wires and it alone.
SHUFFLE_CALLS = (
    ("behind, as the one", lambda wires, shuffle: behind(wires, shuffle, in_order(wires))),
    ("behind, as the other", lambda wires, shuffle: behind(wires, in_order(wires), shuffle)),
    ("behind, as both", lambda wires, shuffle: behind(wires, shuffle, shuffle)),
    ("contrary", contrary),
    ("is_odd", is_odd),
    ("order_of", order_of),
    ("done nought times", lambda wires, shuffle: done(wires, shuffle, 0)),
    ("done once", lambda wires, shuffle: done(wires, shuffle, 1)),
    ("done often", lambda wires, shuffle: done(wires, shuffle, 10 ** 40 - 1)),
    ("made", made),
    ("made_narrow", made_narrow),
)


def all_turns(wires):
    turns = []
    for wire in range(wires):
        others = [other for other in range(wires) if other != wire]
        for many in range(wires):
            turns += [("turn", wire, watched) for watched in combinations(others, many)]
    return turns


def all_swaps(wires):
    return [("swap", one, other) for one, other in combinations(range(wires), 2)]


def all_gates(wires):
    return all_turns(wires) + all_swaps(wires)


def some_rows(wires, many=12):
    """Rows that are the same at each run, of nought to 60 gates."""
    source = random.Random(wires)
    gates = all_gates(wires)
    return [[source.choice(gates) for _ in range(source.randrange(61))] for _ in range(many)]


def long_row(wires, length):
    gates = all_gates(wires)
    return [gates[place % len(gates)] for place in range(length)]


def wires_of(wires, state):
    """The wires from the first to the last, each "up" or "down"."""
    return ["up" if digit == "1" else "down" for digit in reversed(format(state, "b").zfill(wires))]


def state_of(ups):
    return sum(worth for worth, up in zip((1, 2, 4, 8), ups) if up == "up")


def stepped(wires, gate, state):
    """What a gate does, told anew wire by wire."""
    ups = wires_of(wires, state)
    kind, first, second = gate
    if kind == "swap":
        ups[first], ups[second] = ups[second], ups[first]
    elif "down" not in [ups[watched] for watched in second]:
        ups[first] = {"up": "down", "down": "up"}[ups[first]]
    return state_of(ups)


def expected_table(wires, row):
    table = []
    for state in range(STATES[wires]):
        for gate in row:
            state = stepped(wires, gate, state)
        table.append(state)
    return table


def in_order(wires):
    # Of a bad number of wires there is no shuffle: then any list will do.
    return list(range(STATES.get(wires, 2)))


def with_two_changed(wires):
    """Each shuffle that is in order but for two entries."""
    shuffles = []
    for one, other in combinations(range(STATES[wires]), 2):
        shuffle = in_order(wires)
        shuffle[one], shuffle[other] = other, one
        shuffles.append(shuffle)
    return shuffles


def moved_on(wires):
    """Each shuffle that moves all states on by one number; the first is in order."""
    many = STATES[wires]
    return [[(state + step) % many for state in range(many)] for step in range(many)]


def of_rounds(*lengths):
    """A shuffle of rounds of these lengths, one behind the other."""
    shuffle = []
    for length in lengths:
        first = len(shuffle)
        shuffle += [first + (place + 1) % length for place in range(length)]
    return shuffle


def of_round(states):
    """The shuffle that leads each of the states to the one behind it, the last to the first."""
    shuffle = [0] * len(states)
    for one, other in zip(states, states[1:] + states[:1]):
        shuffle[one] = other
    return shuffle


def drawn(wires, many):
    """Shuffles drawn with a fixed beginning: the same at each run."""
    source = random.Random(100 + wires)
    return [source.sample(range(STATES[wires]), STATES[wires]) for _ in range(many)]


def many_shuffles(wires, many=60):
    """All shuffles of one and of two wires, many of three and of four."""
    if wires < 3:
        return [list(shuffle) for shuffle in permutations(range(STATES[wires]))]
    rounds = [of_round(states) for states in drawn(wires, many // 2)]
    return with_two_changed(wires) + moved_on(wires) + [in_order(wires)[::-1]] + rounds + drawn(wires, many)


def few_shuffles(wires):
    return many_shuffles(wires)[:2] + moved_on(wires)[:3] + drawn(wires, 6)


def wrong_pairs(shuffle):
    """How many pairs of entries stand the wrong way round."""
    return sum(one > other for one, other in combinations(shuffle, 2))


def is_wrongly_odd(wires, shuffle):
    """Whether a narrow row is refused to the shuffle."""
    return wires == 4 and wrong_pairs(shuffle) % 2 == 1


def bad_shuffles(wires):
    states = in_order(wires)
    many = len(states)
    far = 10 ** 5000
    lists = [
        [],
        [0],
        states[:-1],
        states[1:],
        states + [many],
        states + states,
        list(range(40)),
        [0] * 40,
        (states * 40)[:40],
        # A state twice, in another's place.
        [1] + states[1:],
        [0] + states[:-1],
        states[:-1] + [0],
        [0] * many,
        # A state twice, besides all states.
        states + [0],
        [many - 1] + states,
        states[:1] + states,
        # A number beyond.
        states[:-1] + [many],
        [many] + states[1:],
        list(range(1, many + 1)),
        # A number below nought; each of these would be a place from the end.
        states[:-1] + [-1],
        [-many] + states[1:],
        list(range(-many, 0)),
        states + [-1],
        # Very great ones.
        states[:-1] + [10 ** 40],
        [far] + states[1:],
        states[:-1] + [-far],
        [far] * many,
        [-far] * 40,
        states + [far],
    ]
    return lists + [in_order(other) for other in WIRES if other != wires]


class Case(unittest.TestCase):
    def assert_same(self, told, asked):
        # Unlike assertEqual it shows no differences: of two rows of 1000
        # gates unittest would seek them for many minutes.
        if told != asked:
            self.fail(f"told {told!r:.400}, asked {asked!r:.400}")

    def assert_refused(self, error, call, *arguments):
        # The very class: none beneath it, none above it, no other.
        with self.assertRaises(error) as caught:
            call(*arguments)
        self.assertIs(type(caught.exception), error)
