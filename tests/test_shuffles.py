"""Point 7: what a shuffle is, the one behind the other, the contrary one."""

import unittest

from undogates.errors import NoShuffle, NoWires
from undogates.rows import table_of, undone
from undogates.shuffles import behind, contrary, done

from helper import (
    NO_WIRES, SHUFFLE_CALLS, WIRES, Case, bad_shuffles, few_shuffles, in_order, is_wrongly_odd, many_shuffles,
    moved_on, of_rounds, some_rows,
)

# Wires, the one, the other, and the one behind which the other is done; of
# each two the order matters.
BEHIND_BY_HAND = (
    (1, [1, 0], [1, 0], [0, 1]),
    (1, [1, 0], [0, 1], [1, 0]),
    (2, [1, 0, 2, 3], [0, 2, 1, 3], [2, 0, 1, 3]),
    (2, [0, 2, 1, 3], [1, 0, 2, 3], [1, 2, 0, 3]),
    (2, [1, 2, 3, 0], [3, 2, 0, 1], [2, 0, 1, 3]),
    (2, [3, 2, 0, 1], [1, 2, 3, 0], [0, 3, 1, 2]),
    (3, [1, 2, 3, 4, 5, 6, 7, 0], [1, 0, 2, 3, 4, 5, 6, 7], [0, 2, 3, 4, 5, 6, 7, 1]),
    (3, [1, 0, 2, 3, 4, 5, 6, 7], [1, 2, 3, 4, 5, 6, 7, 0], [2, 1, 3, 4, 5, 6, 7, 0]),
)

CONTRARY_BY_HAND = (
    (1, [0, 1], [0, 1]),
    (1, [1, 0], [1, 0]),
    (2, [1, 2, 3, 0], [3, 0, 1, 2]),
    (2, [2, 0, 1, 3], [1, 2, 0, 3]),
    (3, [7, 6, 5, 4, 3, 2, 1, 0], [7, 6, 5, 4, 3, 2, 1, 0]),
    (3, [2, 4, 6, 0, 1, 3, 5, 7], [3, 4, 0, 5, 1, 6, 2, 7]),
    (4, of_rounds(3, 13), [2, 0, 1, 15] + list(range(3, 15))),
)


class TestRefused(Case):
    def test_the_bad_ones_are_bad(self):
        for wires in WIRES:
            for number, shuffle in enumerate(bad_shuffles(wires)):
                with self.subTest(wires=wires, number=number):
                    self.assertLessEqual(len(shuffle), 40)
                    self.assertTrue(len(shuffle) != len(in_order(wires)) or set(shuffle) != set(in_order(wires)))

    def test_another_list_is_refused_in_each_place(self):
        for name, call in SHUFFLE_CALLS:
            for wires in WIRES:
                for number, shuffle in enumerate(bad_shuffles(wires)):
                    with self.subTest(name, wires=wires, number=number):
                        self.assert_refused(NoShuffle, call, wires, shuffle)

    def test_another_number_of_wires_is_refused(self):
        for name, call in SHUFFLE_CALLS:
            for place, wires in enumerate(NO_WIRES):
                for shuffle in ([], [0], in_order(1), in_order(2), in_order(3), in_order(4), list(range(32))):
                    with self.subTest(name, place=place, length=len(shuffle)):
                        self.assert_refused(NoWires, call, wires, shuffle)

    def test_no_wires_comes_ahead_of_no_shuffle(self):
        for name, call in SHUFFLE_CALLS:
            for place, wires in enumerate(NO_WIRES):
                for number, shuffle in enumerate(bad_shuffles(2)):
                    with self.subTest(name, place=place, number=number):
                        self.assert_refused(NoWires, call, wires, shuffle)

    def test_behind_refuses_two_bad_ones(self):
        for wires in WIRES:
            for number, shuffle in enumerate(bad_shuffles(wires)):
                with self.subTest(wires=wires, number=number):
                    self.assert_refused(NoShuffle, behind, wires, shuffle, [])
                    self.assert_refused(NoShuffle, behind, wires, [], shuffle)

    def test_a_shuffle_of_other_wires_is_refused(self):
        for wires in WIRES:
            for other in WIRES:
                if wires != other:
                    for shuffle in few_shuffles(other):
                        for name, call in SHUFFLE_CALLS:
                            with self.subTest(name, wires=wires, shuffle=shuffle):
                                self.assert_refused(NoShuffle, call, wires, shuffle)

    def test_each_shuffle_is_taken(self):
        for name, call in SHUFFLE_CALLS:
            for wires in WIRES:
                for shuffle in many_shuffles(wires, 10):
                    if name != "made_narrow" or not is_wrongly_odd(wires, shuffle):
                        with self.subTest(name, wires=wires, shuffle=shuffle):
                            call(wires, shuffle)


class TestBehind(Case):
    def test_by_hand(self):
        for wires, one, other, told in BEHIND_BY_HAND:
            with self.subTest(wires=wires, one=one, other=other):
                self.assert_same(behind(wires, one, other), told)

    def test_each_state_is_led_by_the_one_and_then_by_the_other(self):
        for wires in WIRES:
            for one in few_shuffles(wires):
                for other in few_shuffles(wires):
                    with self.subTest(wires=wires, one=one, other=other):
                        told = behind(wires, one, other)
                        for state in in_order(wires):
                            self.assertEqual(told[state], other[one[state]])

    def test_the_one_in_order_changes_nothing(self):
        for wires in WIRES:
            for shuffle in many_shuffles(wires):
                with self.subTest(wires=wires, shuffle=shuffle):
                    self.assert_same(behind(wires, shuffle, in_order(wires)), shuffle)
                    self.assert_same(behind(wires, in_order(wires), shuffle), shuffle)

    def test_the_tables_of_two_rows(self):
        for wires in WIRES:
            rows = some_rows(wires)
            for one, other in zip(rows, rows[1:]):
                with self.subTest(wires=wires, one=one, other=other):
                    told = behind(wires, table_of(wires, one), table_of(wires, other))
                    self.assert_same(told, table_of(wires, one + other))

    def test_steps_add_up(self):
        for wires in WIRES:
            steps = moved_on(wires)
            for one in range(len(steps)):
                for other in range(len(steps)):
                    with self.subTest(wires=wires, one=one, other=other):
                        told = behind(wires, steps[one], steps[other])
                        self.assert_same(told, steps[(one + other) % len(steps)])


class TestContrary(Case):
    def test_by_hand(self):
        for wires, shuffle, told in CONTRARY_BY_HAND:
            with self.subTest(wires=wires, shuffle=shuffle):
                self.assert_same(contrary(wires, shuffle), told)

    def test_behind_and_ahead_it_leaves_each_state(self):
        for wires in WIRES:
            for shuffle in many_shuffles(wires):
                with self.subTest(wires=wires, shuffle=shuffle):
                    back = contrary(wires, shuffle)
                    self.assert_same(behind(wires, shuffle, back), in_order(wires))
                    self.assert_same(behind(wires, back, shuffle), in_order(wires))
                    self.assert_same(contrary(wires, back), shuffle)

    def test_the_table_of_the_undone_row(self):
        for wires in WIRES:
            for row in some_rows(wires):
                with self.subTest(wires=wires, row=row):
                    self.assert_same(contrary(wires, table_of(wires, row)), table_of(wires, undone(wires, row)))


class TestKinds(Case):
    def test_a_shuffle_is_a_list_of_whole_numbers(self):
        for wires in WIRES:
            for shuffle in few_shuffles(wires):
                for told in (behind(wires, shuffle, shuffle), contrary(wires, shuffle), done(wires, shuffle, 5)):
                    with self.subTest(wires=wires, shuffle=shuffle):
                        self.assertIs(type(told), list)
                        self.assertEqual({type(state) for state in told}, {int})


if __name__ == "__main__":
    unittest.main()
