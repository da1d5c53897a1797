"""Point 9: the order of a shuffle, and a shuffle done so many times."""

import unittest

from undogates.errors import NoShuffle, NoTimes, NoWires
from undogates.shuffles import behind, contrary, done, order_of

from helper import NO_WIRES, WIRES, Case, bad_shuffles, few_shuffles, in_order, many_shuffles, of_round, of_rounds

MOST_TIMES = 10 ** 40 - 1
NO_TIMES = (10 ** 40, 10 ** 40 + 1, 2 * 10 ** 40, 10 ** 41, 10 ** 5000, -1, -2, -140, -10 ** 40, -10 ** 5000)

BY_HAND = (
    (1, [0, 1], 1),
    (1, [1, 0], 2),
    (2, [0, 1, 2, 3], 1),
    (2, [0, 2, 1, 3], 2),
    (2, [3, 2, 1, 0], 2),
    (2, [2, 0, 1, 3], 3),
    (2, [1, 3, 0, 2], 4),
    (3, of_rounds(1, 7), 7),
    (3, of_rounds(8), 8),
    (3, of_rounds(2, 6), 6),
    (3, of_rounds(2, 2, 4), 4),
    (3, of_rounds(2, 3, 3), 6),
    (3, of_rounds(5, 2, 1), 10),
    (3, of_rounds(4, 3, 1), 12),
    (3, of_rounds(3, 5), 15),
    (4, of_rounds(16), 16),
    (4, of_rounds(4, 6, 6), 12),
    (4, of_rounds(6, 10), 30),
    (4, of_rounds(2, 14), 14),
    (4, of_rounds(3, 13), 39),
    (4, of_rounds(1, 2, 13), 26),
    (4, of_rounds(5, 11), 55),
    (4, of_rounds(7, 9), 63),
    (4, of_rounds(3, 5, 8), 120),
    (4, of_rounds(4, 5, 7), 140),
)

# Wires, a shuffle, and what it is when done 10 ** 40 - 1 times. That number
# is odd, divides by 3, 9 and 11, and leaves 3 of 4, 4 of 5, 3 of 7 and 15 of 16.
MOST_BY_HAND = (
    (1, [0, 1], [0, 1]),
    (1, [1, 0], [1, 0]),
    (2, [2, 0, 1, 3], [0, 1, 2, 3]),
    (2, [1, 2, 3, 0], [3, 0, 1, 2]),
    (3, of_rounds(7, 1), [3, 4, 5, 6, 0, 1, 2, 7]),
    (3, of_rounds(3, 5), [0, 1, 2, 7, 3, 4, 5, 6]),
    (4, of_rounds(16), [15] + list(range(15))),
    (4, of_rounds(5, 11), [4, 0, 1, 2, 3] + list(range(5, 16))),
    (4, of_rounds(7, 9), [3, 4, 5, 6, 0, 1, 2] + list(range(7, 16))),
)


def again_and_again(shuffle, times):
    states = list(range(len(shuffle)))
    for _ in range(times):
        states = [shuffle[state] for state in states]
    return states


def counted_order(shuffle):
    times = 1
    states = list(shuffle)
    while states != sorted(shuffle):
        states = [shuffle[state] for state in states]
        times += 1
    return times


class TestOrder(Case):
    def test_by_hand(self):
        for wires, shuffle, order in BY_HAND:
            with self.subTest(wires=wires, shuffle=shuffle):
                self.assertEqual(order_of(wires, shuffle), order)

    def test_rounds_of_states_in_another_order(self):
        self.assertEqual(order_of(2, of_round([2, 0, 3, 1])), 4)
        self.assertEqual(order_of(3, [5, 1, 7, 3, 0, 4, 6, 2]), 6)
        self.assertEqual(order_of(4, in_order(4)[::-1]), 2)

    def test_against_doing_it_again_and_again(self):
        for wires in WIRES:
            for shuffle in many_shuffles(wires, 300):
                with self.subTest(wires=wires, shuffle=shuffle):
                    self.assertEqual(order_of(wires, shuffle), counted_order(shuffle))

    def test_it_is_a_whole_number(self):
        for wires in WIRES:
            for shuffle in few_shuffles(wires):
                with self.subTest(wires=wires, shuffle=shuffle):
                    self.assertIs(type(order_of(wires, shuffle)), int)


class TestDone(Case):
    def test_few_times(self):
        for wires in WIRES:
            for shuffle in many_shuffles(wires):
                with self.subTest(wires=wires, shuffle=shuffle):
                    self.assert_same(done(wires, shuffle, 0), in_order(wires))
                    self.assert_same(done(wires, shuffle, 1), shuffle)
                    self.assert_same(done(wires, shuffle, 2), behind(wires, shuffle, shuffle))
                    self.assert_same(done(wires, shuffle, 3), again_and_again(shuffle, 3))

    def test_about_its_order(self):
        for wires in WIRES:
            for shuffle in many_shuffles(wires):
                order = counted_order(shuffle)
                with self.subTest(wires=wires, shuffle=shuffle):
                    self.assert_same(done(wires, shuffle, order - 1), contrary(wires, shuffle))
                    self.assert_same(done(wires, shuffle, order), in_order(wires))
                    self.assert_same(done(wires, shuffle, order + 1), shuffle)

    def test_each_number_of_times_up_to_twice_the_order(self):
        for wires, shuffle, order in BY_HAND:
            for times in range(2 * order + 1):
                with self.subTest(wires=wires, shuffle=shuffle, times=times):
                    self.assert_same(done(wires, shuffle, times), again_and_again(shuffle, times))

    def test_most_times_by_hand(self):
        for wires, shuffle, told in MOST_BY_HAND:
            with self.subTest(wires=wires, shuffle=shuffle):
                self.assert_same(done(wires, shuffle, MOST_TIMES), told)

    def test_great_numbers_against_what_is_left_of_the_order(self):
        for wires in WIRES:
            for shuffle in many_shuffles(wires):
                order = counted_order(shuffle)
                for times in (MOST_TIMES, MOST_TIMES - 1, 10 ** 39, 2 ** 64, 10 ** 20 + 7):
                    with self.subTest(wires=wires, shuffle=shuffle, times=times):
                        self.assert_same(done(wires, shuffle, times), again_and_again(shuffle, times % order))


class TestRefused(Case):
    def test_another_number_of_times(self):
        for wires in WIRES:
            for shuffle in few_shuffles(wires):
                for place, times in enumerate(NO_TIMES):
                    with self.subTest(wires=wires, shuffle=shuffle, place=place):
                        self.assert_refused(NoTimes, done, wires, shuffle, times)

    def test_no_shuffle_comes_ahead_of_no_times(self):
        for wires in WIRES:
            for number, shuffle in enumerate(bad_shuffles(wires)):
                for place, times in enumerate(NO_TIMES):
                    with self.subTest(wires=wires, number=number, place=place):
                        self.assert_refused(NoShuffle, done, wires, shuffle, times)

    def test_no_wires_comes_ahead_of_both(self):
        for where, wires in enumerate(NO_WIRES):
            for place, times in enumerate(NO_TIMES):
                with self.subTest(where=where, place=place):
                    self.assert_refused(NoWires, done, wires, [0, 0], times)
                    self.assert_refused(NoWires, done, wires, [], times)
                    self.assert_refused(NoWires, done, wires, [1, 0], times)

    def test_a_bad_shuffle_is_refused_at_any_number_of_times(self):
        for wires in WIRES:
            for times in (0, 1, MOST_TIMES):
                with self.subTest(wires=wires, times=times):
                    self.assert_refused(NoShuffle, done, wires, [0] * len(in_order(wires)), times)
                    self.assert_refused(NoShuffle, done, wires, [], times)


if __name__ == "__main__":
    unittest.main()
