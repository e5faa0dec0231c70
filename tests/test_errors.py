"""The refusals: 0.3 and the interface."""

import unittest

from switchkinds import errors

NAMES = ["NoSwitch", "NoName", "NoMove", "Unlike", "NoSums", "NoText", "NoTerm", "NoLabel", "NoBack"]


class Errors(unittest.TestCase):
    def test_any_refusal_is_a_value_error(self):
        self.assertEqual(errors.SwitchError.__bases__, (ValueError,))

    def test_each_stands_straight_under_switch_error(self):
        for name in NAMES:
            self.assertEqual(getattr(errors, name).__bases__, (errors.SwitchError,), name)

    def test_none_stands_under_another(self):
        classes = [getattr(errors, name) for name in NAMES]
        self.assertEqual(len(set(classes)), len(NAMES))
        for one in classes:
            for other in classes:
                self.assertEqual(issubclass(one, other), one is other)

    def test_each_is_raised_and_taken(self):
        for name in NAMES:
            with self.assertRaises(errors.SwitchError):
                raise getattr(errors, name)("words")


if __name__ == "__main__":
    unittest.main()
