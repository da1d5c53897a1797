"""Point 12: how a row is written, and which texts are read."""

import unittest
from itertools import product

from undogates.errors import NoGate, NoNote, NoWires
from undogates.notes import read, shown

from helper import NO_WIRES, WIRES, Case, all_gates, all_swaps, all_turns, long_row, some_rows

# Wires, a row, and how it is written.
BY_HAND = (
    (4, [("turn", 2, (0, 1)), ("turn", 3, ()), ("swap", 0, 2)], "t201 t3 s02"),
    (1, [], ""),
    (4, [], ""),
    (1, [("turn", 0, ())], "t0"),
    (1, [("turn", 0, ())] * 3, "t0 t0 t0"),
    (2, [("turn", 1, (0,)), ("swap", 0, 1)], "t10 s01"),
    (3, [("turn", 1, (0, 2)), ("swap", 1, 2), ("turn", 0, (1, 2))], "t102 s12 t012"),
    (4, [("turn", 0, (1, 2, 3)), ("turn", 3, (0, 1, 2)), ("swap", 2, 3)], "t0123 t3012 s23"),
)

# Texts that write no row, of however many wires.
NO_NOTES = (
    # Blanks that stand alone, ahead, behind or by twos.
    " ", "  ", " t0", "t0 ", " t0 ", "t0  t0", "t0   t0", "t0 t0 ", " t0 t0", "  t0", "t0  ",
    # Tabs and line ends.
    "\t", "\n", "t0\tt0", "t0\nt0", "t0\n", "t0\t", "\nt0", "\tt0", "t0 \n", "t0 \t", "t0 \nt0", "t0\n t0", "t0\n\n",
    "t\n0", "t\t0", "t0 t0\n", "t0\n ", " \n",
    # No letter, a letter alone, another one, or a great one.
    "t", "s", "0", "00", "01", "t t0", "t0 t", "s t0", "t0 s", "t0 0", "0 t0", "a0", "u0", "r0", "x01", "T0", "S01",
    "t0 T0", "tt0", "ts0", "st0", "ss01", "0t", "01s", "t0t0", "t0s01", "turn", "swap", "t 0", "s 01", "s 0 1",
    # A figure too few or too many.
    "s0", "s1", "s012", "s0123", "s001", "s011", "s01 s0", "t01234", "t00", "t000", "t0 t00",
    # Wires that are none, watched wires that don't rise or stand twice, wires
    # that watch themselves.
    "t4", "t5", "t8", "t9", "t04", "t09", "s04", "s09", "s45", "s14", "t0 t4", "t4 t0", "t10000", "t0124", "t01239",
    "t11", "t22", "t33", "t001", "t101", "t110", "t011", "t0112", "t0122", "t021", "t120", "t0213", "t0132", "t0321",
    "t3021", "t3210", "t1012", "t30123", "t0120", "t3201", "t031", "t032", "t320 t3", "t011111111111111111111111",
    # Swaps with the greater number first, or of one wire.
    "s10", "s20", "s21", "s30", "s31", "s32", "s00", "s11", "s22", "s33", "t0 s10", "s10 t0",
    # Other signs among the figures.
    "t+0", "t-0", "t-1", "t_0", "t0_", "t0_1", "t0+1", "t0-1", "t0,1", "t0(1)", "t(0)", "t0.", "t0.0", "s0_1", "s0+1",
    "s+01", "s-01", "s0-1", "s01_", "s01+", "s_01", "s0,1", "s+1", "s-1", "t0+", "t0-", "t1+0", "t1-0", "t1_0",
    # Other signs between or about the gates.
    "t0,t0", "t0;t0", "t0,", "t0, t0", "[]", "()", "~", "!", "t0~", "~t0", "'t0'", "\"t0\"", "t0#", "\\", "t0\\n",
    "None", "[('turn', 0, ())]", "-", "_", "+", "t0 -", "- t0", "t0 _ t0",
)


def words(wires):
    return [shown(wires, [gate]) for gate in all_gates(wires)]


class TestShown(Case):
    def test_by_hand(self):
        for wires, row, text in BY_HAND:
            with self.subTest(wires=wires, text=text):
                self.assertEqual(shown(wires, row), text)

    def test_the_empty_row_is_the_empty_text(self):
        for wires in WIRES:
            with self.subTest(wires=wires):
                self.assertEqual(shown(wires, []), "")

    def test_single_gates(self):
        for wires in WIRES:
            for gate in all_turns(wires):
                with self.subTest(wires=wires, gate=gate):
                    self.assertEqual(shown(wires, [gate]), "t" + "".join(map(str, (gate[1],) + gate[2])))
            for gate in all_swaps(wires):
                with self.subTest(wires=wires, gate=gate):
                    self.assertEqual(shown(wires, [gate]), f"s{gate[1]}{gate[2]}")

    def test_one_blank_stands_between(self):
        for wires in WIRES:
            for row in some_rows(wires) + [long_row(wires, 1000)]:
                with self.subTest(wires=wires, row=row):
                    text = shown(wires, row)
                    self.assertIs(type(text), str)
                    self.assert_same(text, " ".join(shown(wires, [gate]) for gate in row))

    def test_a_row_is_not_shortened(self):
        self.assertEqual(shown(2, [("swap", 0, 1), ("swap", 0, 1)]), "s01 s01")

    def test_refused(self):
        # Each function of a row is asked in test_refusals, shown among them.
        for place, wires in enumerate(NO_WIRES):
            with self.subTest(place=place):
                self.assert_refused(NoWires, shown, wires, [])
                self.assert_refused(NoWires, shown, wires, [("swap", 1, 0)])
        for wires in WIRES:
            for gate in (("turn", wires, ()), ("turn", 0, (0,)), ("swap", 0, 0), ("swap", 1, 0), ("turn", -1, ())):
                with self.subTest(wires=wires, gate=gate):
                    self.assert_refused(NoGate, shown, wires, [gate])
            self.assert_refused(NoGate, shown, wires, [("turn", 0, ())] * 1001)


class TestRead(Case):
    def test_by_hand(self):
        for wires, row, text in BY_HAND:
            with self.subTest(wires=wires, text=text):
                self.assert_same(read(wires, text), row)

    def test_the_empty_text_is_the_empty_row(self):
        for wires in WIRES:
            with self.subTest(wires=wires):
                self.assert_same(read(wires, ""), [])

    def test_each_gate_is_read_back(self):
        for wires in WIRES:
            for gate in all_gates(wires):
                for row in ([gate], [gate, gate], [("turn", 0, ()), gate], [gate, ("turn", 0, ())]):
                    with self.subTest(wires=wires, row=row):
                        self.assert_same(read(wires, shown(wires, row)), row)

    def test_rows_are_read_back(self):
        for wires in WIRES:
            for row in some_rows(wires) + [long_row(wires, 999), long_row(wires, 1000)]:
                with self.subTest(wires=wires, row=row):
                    self.assert_same(read(wires, shown(wires, row)), row)

    def test_a_gate_that_is_read_is_of_the_kinds_told(self):
        for wires in WIRES:
            for gate in read(wires, shown(wires, all_gates(wires))):
                with self.subTest(wires=wires, gate=gate):
                    self.assertIs(type(gate), tuple)
                    self.assertIs(type(gate[1]), int)
                    self.assertIs(type(gate[2]), tuple if gate[0] == "turn" else int)

    def test_a_gate_of_fewer_wires_is_read_by_more(self):
        for wires in WIRES:
            for more in range(wires, 5):
                with self.subTest(wires=wires, more=more):
                    self.assert_same(read(more, " ".join(words(wires))), all_gates(wires))


class TestRefused(Case):
    def test_texts_that_write_no_row(self):
        for wires in WIRES:
            for text in NO_NOTES:
                with self.subTest(wires=wires, text=text):
                    self.assert_refused(NoNote, read, wires, text)

    def test_a_bad_word_at_any_place(self):
        for bad in ("", "t", "s", "t4", "s10", "s0", "t00", "T0", "t0\n", "t+0"):
            for place in range(4):
                good = ["t0", "t3", "s02"]
                with self.subTest(bad=bad, place=place):
                    self.assert_refused(NoNote, read, 4, " ".join(good[:place] + [bad] + good[place:]))

    def test_a_bad_word_in_a_long_text(self):
        for place in (0, 500, 998, 999):
            with self.subTest(place=place):
                text = ["t0"] * 1000
                text[place] = "t00"
                self.assert_refused(NoNote, read, 4, " ".join(text))

    def test_a_gate_of_more_wires_only(self):
        for wires in (1, 2, 3):
            for word in words(4):
                if word not in words(wires):
                    with self.subTest(wires=wires, word=word):
                        self.assert_refused(NoNote, read, wires, word)
                        self.assert_refused(NoNote, read, wires, f"t0 {word}")

    def test_all_short_texts(self):
        # Just the words of the gates are read, of all texts of these signs.
        signs = "ts01234 \n+-_T"
        for wires in WIRES:
            taken = {"": []}
            taken.update({word: [gate] for word, gate in zip(words(wires), all_gates(wires))})
            for length in range(5):
                for text in map("".join, product(signs, repeat=length)):
                    if text in taken:
                        self.assert_same(read(wires, text), taken[text])
                    else:
                        self.assert_refused(NoNote, read, wires, text)

    def test_each_sign_in_the_place_of_each_other(self):
        signs = "\t\n" + "".join(chr(code) for code in range(32, 127) if chr(code) != chr(37))
        for text in ("t201", "s02", "t3"):
            for place in range(len(text)):
                for sign in signs:
                    changed = text[:place] + sign + text[place + 1:]
                    with self.subTest(changed=changed):
                        if changed in words(4):
                            self.assertEqual(shown(4, read(4, changed)), changed)
                        else:
                            self.assert_refused(NoNote, read, 4, changed)

    def test_more_than_1000_gates(self):
        for wires in WIRES:
            for word in words(wires):
                with self.subTest(wires=wires, word=word):
                    self.assertEqual(len(read(wires, " ".join([word] * 1000))), 1000)
                    self.assert_refused(NoNote, read, wires, " ".join([word] * 1001))
                    self.assert_refused(NoNote, read, wires, " ".join([word] * 1200))
        self.assert_refused(NoNote, read, 1, " ".join(["t0"] * 2000))

    def test_long_texts_that_write_no_row(self):
        texts = [sign * 6000 for sign in " \n\tts0"] + [word * 2000 for word in ("t0\n", "t0\t", "s01")]
        texts += ["t" + "0" * 5999, "s" + "1" * 5999]
        for text in texts:
            for wires in WIRES:
                with self.subTest(wires=wires, start=text[:3]):
                    self.assert_refused(NoNote, read, wires, text)

    def test_no_wires_comes_ahead_of_no_note(self):
        for place, wires in enumerate(NO_WIRES):
            for text in ("", "t0", "t201 t3 s02", "t4", "t5") + NO_NOTES[::5] + (" ".join(["t0"] * 1001),):
                with self.subTest(place=place, text=text[:20]):
                    self.assert_refused(NoWires, read, wires, text)


if __name__ == "__main__":
    unittest.main()
