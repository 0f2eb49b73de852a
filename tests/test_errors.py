"""The error classes of the interface: their bases, how they are made, their field."""

import unittest

from hatsight import errors

BASES = {
    "HatError": ValueError,
    "LineError": errors.HatError,
    "NoLine": errors.LineError,
    "Twice": errors.LineError,
    "Unknown": errors.LineError,
    "TooMany": errors.LineError,
    "NoAsk": errors.HatError,
    "NoName": errors.HatError,
    "NoHats": errors.HatError,
    "NoGroups": errors.HatError,
    "NoPlan": errors.HatError,
}
LINE_ERRORS = ("LineError", "NoLine", "Twice", "Unknown", "TooMany")


class ErrorClasses(unittest.TestCase):
    def test_each_stands_under_its_base_alone(self):
        for name, base in BASES.items():
            with self.subTest(name=name):
                self.assertEqual(getattr(errors, name).__bases__, (base,))

    def test_no_refusal_stands_under_another_but_as_told(self):
        for name in BASES:
            for other in BASES:
                if name == other:
                    continue
                under = other == "HatError" or (other == "LineError" and name in LINE_ERRORS)
                with self.subTest(name=name, other=other):
                    self.assertIs(issubclass(getattr(errors, name), getattr(errors, other)), under)

    def test_names_are_classes_of_their_own(self):
        self.assertEqual(len({getattr(errors, name) for name in BASES}), len(BASES))

    def test_line_errors_bear_their_line(self):
        for name in LINE_ERRORS:
            for line in (0, 1, 7, 6000, 10 ** 79, 10 ** 80 - 1):
                with self.subTest(name=name, line=line):
                    made = getattr(errors, name)(line)
                    self.assertEqual(made.line, line)
                    self.assertIs(type(made.line), int)
                    self.assertEqual(getattr(errors, name)(line=line).line, line)

    def test_each_can_be_raised_and_taken_as_any_refusal(self):
        for name in BASES:
            made = getattr(errors, name)(3) if name in LINE_ERRORS else getattr(errors, name)()
            with self.subTest(name=name):
                with self.assertRaises(errors.HatError):
                    raise made
                with self.assertRaises(ValueError):
                    raise made

    def test_two_errors_keep_their_own_lines(self):
        first = errors.NoLine(1)
        second = errors.NoLine(2)
        self.assertEqual((first.line, second.line), (1, 2))


if __name__ == "__main__":
    unittest.main()
