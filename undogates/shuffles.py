"""Shuffles: lists that have at each state's place the state to which it is led.

A shuffle falls into rounds: the states that one is led through until it is
back. Their lengths tell its order, and whether it is odd.
"""

from undogates.errors import NoShuffle, NoTimes
from undogates.rows import POWERS, check_wires


def check_shuffle(wires, shuffle):
    check_wires(wires)
    if sorted(shuffle) != states_in_order(wires):
        raise NoShuffle("a shuffle has each state just once")


def states_in_order(wires):
    return list(range(POWERS[wires]))


def behind(wires, one, other):
    check_shuffle(wires, one)
    check_shuffle(wires, other)
    return led_on(one, other)


def led_on(states, shuffle):
    return [shuffle[state] for state in states]


def contrary(wires, shuffle):
    check_shuffle(wires, shuffle)
    return [shuffle.index(state) for state in states_in_order(wires)]


def is_odd(wires, shuffle):
    # A round is put in order by one change of two entries fewer than it has states.
    check_shuffle(wires, shuffle)
    return sum([length - 1 for length in round_lengths(shuffle)]) % 2 == 1


def round_lengths(shuffle):
    lengths = []
    met = {}
    for start in shuffle:
        if start not in met:
            states = round_from(shuffle, start)
            for state in states:
                met[state] = True
            lengths.append(len(states))
    return lengths


def round_from(shuffle, start):
    states = [start]
    while shuffle[states[-1]] != start:
        states.append(shuffle[states[-1]])
    return states


def order_of(wires, shuffle):
    check_shuffle(wires, shuffle)
    order = 1
    for length in round_lengths(shuffle):
        order = least_common_multiple(order, length)
    return order


def least_common_multiple(one, other):
    multiple = one
    while multiple % other != 0:
        multiple += one
    return multiple


def done(wires, shuffle, times):
    order = order_of(wires, shuffle)
    if not 0 <= times < 10 ** 40:
        raise NoTimes("a shuffle is done nought or more times, fewer than 10 ** 40")
    states = states_in_order(wires)
    # Done as often as its order it changes nothing, so only what is left counts.
    for step in range(times % order):
        states = led_on(states, shuffle)
    return states
