"""Making a row whose table is a given shuffle.

Each way finds gates that, done behind the shuffle, lead each state back. The
undone row of those gates is the one asked for.
"""

from undogates.errors import Odd
from undogates.rows import MOST_WIRES, POWERS, after_row, is_up, undone
from undogates.shuffles import check_shuffle, is_odd

LAST = 15

# The last state is the only one that both gates of it move. So it leads 15 to
# 14, 14 to 13 and 13 to 15, and leaves each other state.
LAST_THREE_ROUND = (
    ("turn", 1, (0, 3)),
    ("turn", 0, (1, 2)),
    ("turn", 1, (0, 3)),
    ("turn", 0, (1, 2)),
)


def made(wires, shuffle):
    check_shuffle(wires, shuffle)
    back = []
    for state in range(POWERS[wires]):
        # At most one gate for each wire: at most 64 in all.
        back.extend(gates_back(after_row(back, shuffle[state]), state))
    return undone(wires, back)


def gates_back(reached, state):
    # The states below are back already, so what is reached is none of them.
    # A gate that watches all wires that are up in a state moves no state
    # below it: hence the states below stay where they are.
    common = state & reached
    rising = [("turn", wire, wires_up(reached)) for wire in wires_up(state ^ common)]
    falling = [("turn", wire, wires_up(state)) for wire in wires_up(reached ^ common)]
    return rising + falling


def wires_up(state):
    return tuple([wire for wire in range(MOST_WIRES) if is_up(wire, state)])


def made_narrow(wires, shuffle):
    check_shuffle(wires, shuffle)
    if wires < MOST_WIRES:
        # A wire of three has only two others to watch: each row is narrow.
        return made(wires, shuffle)
    if is_odd(wires, shuffle):
        raise Odd("no narrow row of four wires has an odd table")
    return undone(wires, narrow_gates_back(shuffle))


def narrow_gates_back(shuffle):
    back = []
    # The last two need nothing: all that is done is even, so they can't be
    # the only ones that are changed about.
    for state in range(LAST - 1):
        reached = after_row(back, shuffle[state])
        if reached != state:
            # At most 4 gates and twice 12: at most 14 * 28 = 392 in all.
            back.extend(round_of_three(reached, state, spare_state(reached)))
    return back


def spare_state(reached):
    return LAST if reached != LAST else LAST - 1


def round_of_three(one, other, third):
    # Leads one to other, other to third, third to one, and leaves each other
    # state: what the round in the middle does to the last three.
    there = gates_to_last_three(one, other, third)
    return there + list(LAST_THREE_ROUND) + list(reversed(there))


def gates_to_last_three(one, other, third):
    # Leads one to 15, other to 14 and third to 13. A turn that watches one
    # wire leads the difference of two states to the difference of those to
    # which it leads them. So the differences from one are brought to 1 and to
    # 2 as if they were states. They are unlike and not nought, and stay so:
    # once the first is 1, the second has a wire up besides wire 0.
    gates = gates_to_single_wire(one ^ other, 0)
    gates = gates + gates_to_single_wire(after_row(gates, one ^ third), 1)
    down = LAST ^ after_row(gates, one)
    return gates + [("turn", wire, ()) for wire in wires_up(down)]


def gates_to_single_wire(state, wire):
    # After these the wire alone is up; it or a later one must be up ahead of
    # them. No earlier wire is watched, so a state where one of those alone is
    # up stays as it is.
    gates = []
    if not is_up(wire, state):
        gates.append(("turn", wire, (max(wires_up(state)),)))
    return gates + [("turn", each, (wire,)) for each in wires_up(state) if each != wire]
