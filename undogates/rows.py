"""Wires, gates and rows: what a row does, and the rows that are made from it.

No error's words hold a number that was handed in: Python doesn't write out
very long ones, and would raise an error of its own instead.
"""

from undogates.errors import NoGate, NoWires

MOST_WIRES = 4
MOST_GATES = 1000
MOST_WATCHED_IF_NARROW = 2

# At a wire's place stands what it adds to a state if it is up; at the place
# of a number of wires, how many states they have.
POWERS = (1, 2, 4, 8, 16)


def check_wires(wires):
    if not 1 <= wires <= MOST_WIRES:
        raise NoWires("there are 1 to 4 wires")


def check_row(wires, row):
    check_wires(wires)
    if len(row) > MOST_GATES:
        raise NoGate("a row has at most 1000 gates")
    for gate in row:
        if not is_gate(wires, gate):
            raise NoGate("a gate of the row is none of these wires'")


def is_gate(wires, gate):
    if gate[0] == "turn":
        return is_turn(wires, gate[1], gate[2])
    return gate[0] == "swap" and is_swap(wires, gate[1], gate[2])


def is_turn(wires, wire, watched):
    if not is_wire(wires, wire) or wire in watched:
        return False
    return is_rising(watched) and all([is_wire(wires, each) for each in watched])


def is_swap(wires, one, other):
    return is_wire(wires, one) and is_wire(wires, other) and one < other


def is_wire(wires, number):
    return 0 <= number < wires


def is_rising(numbers):
    return all([one < other for one, other in zip(numbers, numbers[1:])])


def table_of(wires, row):
    check_row(wires, row)
    return [after_row(row, state) for state in range(POWERS[wires])]


def led(wires, row, state):
    check_row(wires, row)
    return after_row(row, state)


def after_row(row, state):
    for gate in row:
        state = after_gate(gate, state)
    return state


def after_gate(gate, state):
    if gate[0] == "turn":
        return after_turn(gate[1], gate[2], state)
    return after_swap(gate[1], gate[2], state)


def after_turn(wire, watched, state):
    if all([is_up(each, state) for each in watched]):
        return state ^ POWERS[wire]
    return state


def after_swap(one, other, state):
    # Two wires that are alike stay as they are; of two unlike, both turn.
    if is_up(one, state) == is_up(other, state):
        return state
    return state ^ POWERS[one] ^ POWERS[other]


def is_up(wire, state):
    return (state & POWERS[wire]) != 0


def undone(wires, row):
    # Each gate undoes itself, so the order alone has to be turned round.
    check_row(wires, row)
    return list(reversed(row))


def shortened(wires, row):
    check_row(wires, row)
    kept = []
    for gate in row:
        # What is kept has no two same neighbours, so only its end can pair.
        if len(kept) > 0 and kept[-1] == gate:
            kept.pop()
        else:
            kept.append(gate)
    return kept


def is_narrow(wires, row):
    check_row(wires, row)
    return all([watches(gate) <= MOST_WATCHED_IF_NARROW for gate in row])


def watches(gate):
    return len(gate[2]) if gate[0] == "turn" else 0
