import unittest

from undogates import errors

NAMES = ("NoWires", "NoGate", "NoShuffle", "NoTimes", "Odd", "NoNote")


class TestErrors(unittest.TestCase):
    def test_wire_error_is_straight_beneath_value_error(self):
        self.assertEqual(errors.WireError.__bases__, (ValueError,))

    def test_each_is_straight_beneath_wire_error(self):
        for name in NAMES:
            with self.subTest(name):
                self.assertEqual(getattr(errors, name).__bases__, (errors.WireError,))

    def test_none_is_beneath_another(self):
        for name in NAMES:
            for other in NAMES:
                if name != other:
                    with self.subTest(name=name, other=other):
                        self.assertFalse(issubclass(getattr(errors, name), getattr(errors, other)))

    def test_each_is_taken_as_wire_error_and_as_value_error(self):
        for name in NAMES:
            for above in (errors.WireError, ValueError):
                with self.subTest(name=name, above=above):
                    with self.assertRaises(above):
                        raise getattr(errors, name)("words")


if __name__ == "__main__":
    unittest.main()
