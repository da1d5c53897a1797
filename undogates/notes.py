"""Notes: rows written as texts, and read again."""

from undogates.errors import NoNote
from undogates.rows import MOST_GATES, check_row, check_wires, is_gate

FIGURES = {"0": 0, "1": 1, "2": 2, "3": 3}


def shown(wires, row):
    check_row(wires, row)
    return " ".join([shown_gate(gate) for gate in row])


def shown_gate(gate):
    if gate[0] == "turn":
        return "t" + shown_wires([gate[1]]) + shown_wires(gate[2])
    return "s" + shown_wires([gate[1], gate[2]])


def shown_wires(numbers):
    return "".join([str(number) for number in numbers])


def read(wires, text):
    check_wires(wires)
    # Split by the blank, so a tab or a line end stays in its word.
    words = text.split(" ") if text != "" else []
    if len(words) > MOST_GATES:
        raise NoNote("a row has at most 1000 gates")
    return [read_gate(wires, word) for word in words]


def read_gate(wires, word):
    gate = gate_or_none(word)
    if gate is None or not is_gate(wires, gate):
        raise NoNote("a word of the text writes no gate of these wires")
    return gate


def gate_or_none(word):
    figures = word[1:]
    if not all([sign in FIGURES for sign in figures]):
        return None
    numbers = [FIGURES[sign] for sign in figures]
    if word.startswith("t") and len(numbers) > 0:
        return ("turn", numbers[0], tuple(numbers[1:]))
    if word.startswith("s") and len(numbers) == 2:
        return ("swap", numbers[0], numbers[1])
    return None
