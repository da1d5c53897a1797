"""Points 10 and 11: a row, and a narrow row, whose table is a given shuffle."""

import random
import unittest
from itertools import permutations

from undogates.errors import NoShuffle, NoWires, Odd
from undogates.making import made, made_narrow
from undogates.notes import read, shown
from undogates.rows import is_narrow, led, shortened, table_of, undone
from undogates.shuffles import behind, contrary, is_odd

from helper import (
    CALLS, NO_WIRES, WIRES, Case, all_gates, bad_shuffles, drawn, expected_table, few_shuffles, in_order,
    is_wrongly_odd, long_row, many_shuffles, moved_on, of_round, of_rounds, some_rows, with_two_changed, wrong_pairs,
)

MANY = 300
MOST_GATES = 200
MOST_NARROW_GATES = 1000

NARROW_GATES = [gate for gate in all_gates(4) if gate[0] == "swap" or len(gate[2]) < 3]


def shuffles_with_a_narrow_row(wires):
    return [shuffle for shuffle in many_shuffles(wires, MANY) if not is_wrongly_odd(wires, shuffle)]


def odd_shuffles_of_four():
    return [shuffle for shuffle in many_shuffles(4, MANY) if wrong_pairs(shuffle) % 2 == 1]


def even_ones_of_four():
    """Even shuffles of the kinds that come seldom when they are drawn."""
    first_two_changed = [1, 0] + in_order(4)[2:]
    two_pairs = [behind(4, first_two_changed, shuffle) for shuffle in with_two_changed(4)]
    rounds_of_three = [of_round_of_three(*states) for states in permutations(range(16), 3)]
    rounds = [of_rounds(1, 15), of_rounds(15, 1), of_rounds(8, 8), of_rounds(2, 14), of_rounds(3, 13)]
    return two_pairs + rounds_of_three[::7] + rounds + [of_rounds(*[2] * 8), in_order(4)[::-1]]


def of_round_of_three(one, other, third):
    shuffle = in_order(4)
    shuffle[one], shuffle[other], shuffle[third] = other, third, one
    return shuffle


def narrow_rows_of_four():
    source = random.Random(11)
    rows = [[source.choice(NARROW_GATES) for _ in range(source.randrange(80))] for _ in range(200)]
    return rows + [[gate] for gate in NARROW_GATES] + [(NARROW_GATES * 40)[:1000], (NARROW_GATES * 40)[:999]]


class MadeCase(Case):
    def assert_makes(self, wires, row, shuffle, most):
        self.assertIs(type(row), list)
        self.assertLessEqual(len(row), most)
        gates = all_gates(wires)
        for gate in row:
            self.assertIn(gate, gates)
            self.assertIs(type(gate), tuple)
            self.assertIs(type(gate[1]), int)
            self.assertIs(type(gate[2]), tuple if gate[0] == "turn" else int)
        self.assert_same(table_of(wires, row), shuffle)
        self.assert_same(expected_table(wires, row), shuffle)

    def assert_makes_narrow(self, wires, row, shuffle):
        self.assert_makes(wires, row, shuffle, MOST_NARROW_GATES)
        self.assertIs(is_narrow(wires, row), True)
        self.assertLess(max([len(gate[2]) for gate in row if gate[0] == "turn"], default=0), 3)


class TestSamples(Case):
    def test_the_kinds_of_shuffles_that_are_asked(self):
        self.assertEqual([len(many_shuffles(wires)) for wires in (1, 2)], [2, 24])
        for wires in (3, 4):
            shuffles = many_shuffles(wires, MANY)
            asked = with_two_changed(wires) + moved_on(wires) + drawn(wires, MANY)
            asked += [in_order(wires), in_order(wires)[::-1]] + [of_round(states) for states in drawn(wires, 20)]
            for shuffle in asked:
                with self.subTest(wires=wires, shuffle=shuffle):
                    self.assertIn(shuffle, shuffles)

    def test_even_ones_are_even(self):
        self.assertEqual({wrong_pairs(shuffle) % 2 for shuffle in even_ones_of_four()}, {0})


class TestMade(MadeCase):
    def test_many_shuffles(self):
        for wires in WIRES:
            for shuffle in many_shuffles(wires, MANY):
                with self.subTest(wires=wires, shuffle=shuffle):
                    self.assert_makes(wires, made(wires, shuffle), shuffle, MOST_GATES)

    def test_even_shuffles_of_four_wires(self):
        for shuffle in even_ones_of_four():
            with self.subTest(shuffle=shuffle):
                self.assert_makes(4, made(4, shuffle), shuffle, MOST_GATES)

    def test_the_tables_of_rows(self):
        for wires in WIRES:
            for row in some_rows(wires) + [[gate] for gate in all_gates(wires)] + [long_row(wires, 1000)]:
                with self.subTest(wires=wires, row=row):
                    table = table_of(wires, row)
                    self.assert_makes(wires, made(wires, table), table, MOST_GATES)

    def test_odd_shuffles_of_four_wires_are_made(self):
        for shuffle in odd_shuffles_of_four():
            with self.subTest(shuffle=shuffle):
                self.assertIs(is_narrow(4, made(4, shuffle)), False)


class TestMadeNarrow(MadeCase):
    def test_many_shuffles(self):
        for wires in WIRES:
            for shuffle in shuffles_with_a_narrow_row(wires):
                with self.subTest(wires=wires, shuffle=shuffle):
                    self.assert_makes_narrow(wires, made_narrow(wires, shuffle), shuffle)

    def test_odd_shuffles_of_one_to_three_wires_too(self):
        for wires in (1, 2, 3):
            for shuffle in with_two_changed(wires):
                with self.subTest(wires=wires, shuffle=shuffle):
                    self.assertIs(is_odd(wires, shuffle), True)
                    self.assert_makes_narrow(wires, made_narrow(wires, shuffle), shuffle)

    def test_even_shuffles_of_four_wires(self):
        for shuffle in even_ones_of_four():
            with self.subTest(shuffle=shuffle):
                self.assert_makes_narrow(4, made_narrow(4, shuffle), shuffle)

    def test_the_table_of_a_narrow_row_of_four_wires_is_even(self):
        for row in narrow_rows_of_four():
            with self.subTest(row=row):
                table = table_of(4, row)
                self.assertIs(is_odd(4, table), False)
                self.assert_makes_narrow(4, made_narrow(4, table), table)


class TestRefused(Case):
    def test_an_odd_shuffle_of_four_wires(self):
        self.assertGreater(len(odd_shuffles_of_four()), 200)
        for shuffle in odd_shuffles_of_four():
            with self.subTest(shuffle=shuffle):
                self.assert_refused(Odd, made_narrow, 4, shuffle)

    def test_no_shuffle_comes_ahead_of_odd(self):
        # Each list is asked with two entries changed about too: of the two,
        # whatever counts the changes finds one odd.
        for number, shuffle in enumerate(bad_shuffles(4)):
            with self.subTest(number=number):
                self.assert_refused(NoShuffle, made_narrow, 4, shuffle)
                shuffle[:2] = shuffle[:2][::-1]
                self.assert_refused(NoShuffle, made_narrow, 4, shuffle)
                self.assert_refused(NoShuffle, made, 4, shuffle)

    def test_no_wires_comes_ahead_of_odd(self):
        for place, wires in enumerate(NO_WIRES):
            for shuffle in with_two_changed(4)[::10]:
                with self.subTest(place=place, shuffle=shuffle):
                    self.assert_refused(NoWires, made_narrow, wires, shuffle)
                    self.assert_refused(NoWires, made, wires, shuffle)

    def test_an_odd_shuffle_of_fewer_wires_is_no_shuffle_of_four(self):
        for wires in (1, 2, 3):
            for shuffle in with_two_changed(wires):
                with self.subTest(wires=wires, shuffle=shuffle):
                    self.assert_refused(NoShuffle, made_narrow, 4, shuffle)


class TestTaken(Case):
    def made_rows(self, wires):
        shuffles = few_shuffles(wires)
        narrow = [made_narrow(wires, shuffle) for shuffle in shuffles if not is_wrongly_odd(wires, shuffle)]
        return [made(wires, shuffle) for shuffle in shuffles] + narrow

    def test_rows_made_are_taken_by_each_function(self):
        for wires in WIRES:
            for row in self.made_rows(wires):
                for name, call in CALLS:
                    with self.subTest(name, wires=wires, row=row):
                        call(wires, row)

    def test_what_the_functions_tell_of_rows_made(self):
        for wires in WIRES:
            for row in self.made_rows(wires):
                with self.subTest(wires=wires, row=row):
                    table = table_of(wires, row)
                    self.assert_same([led(wires, row, state) for state in in_order(wires)], table)
                    self.assert_same(table_of(wires, undone(wires, row)), contrary(wires, table))
                    self.assert_same(table_of(wires, shortened(wires, row)), table)
                    self.assert_same(read(wires, shown(wires, row)), row)


if __name__ == "__main__":
    unittest.main()
