"""The classes of errors.py."""

import unittest

from splithouse.errors import NoCut, NoRow, NoSet, NoText, SplitError, TooMany

KINDS = (NoCut, TooMany, NoText, NoRow, NoSet)


class Errors(unittest.TestCase):
    def test_split_error_stands_under_value_error(self):
        self.assertEqual(SplitError.__bases__, (ValueError,))

    def test_each_kind_stands_under_split_error_alone(self):
        for kind in KINDS:
            self.assertEqual(kind.__bases__, (SplitError,), kind)

    def test_no_kind_stands_under_another(self):
        for one in KINDS:
            for other in KINDS:
                self.assertEqual(issubclass(one, other), one is other)

    def test_each_kind_is_taken_as_split_error_and_as_value_error(self):
        for kind in KINDS:
            with self.assertRaises(SplitError):
                raise kind(1)
            with self.assertRaises(ValueError):
                raise kind(1)

    def test_no_text_has_its_line(self):
        for line in (0, 1, 12, 13):
            self.assertEqual(NoText(line).line, line)
        self.assertEqual(NoText().line, 0)
        self.assertIs(type(NoText().line), int)

    def test_no_text_keeps_its_own_line_beside_others(self):
        one = NoText(3)
        other = NoText(5)
        self.assertEqual((one.line, other.line), (3, 5))


if __name__ == "__main__":
    unittest.main()
