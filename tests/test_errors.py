"""Point 16, and point 2 of errors."""

import unittest

from anyasked import errors
from tests.anyvalues import any_values

NAMES = (
    "BadUnits", "BadCount", "BadShare", "BadPage", "NoPart", "NoAbove", "BadCounts", "OtherPage", "BadTimes",
    "BadRows", "Unlike", "BadStatement", "NoTable", "Empty", "BadTotal", "BadOffers", "BadWishes", "Contrary",
    "NothingToUndo", "NothingToRedo", "NoTrial", "BadJournal", "BadLine",
)


class ErrorsTest(unittest.TestCase):
    def all_classes(self):
        return [errors.AskedError] + [getattr(errors, name) for name in NAMES]

    def test_bases(self):
        self.assertEqual(errors.AskedError.__bases__, (ValueError,))
        for name in NAMES:
            with self.subTest(name):
                self.assertEqual(getattr(errors, name).__bases__, (errors.AskedError,))

    def test_names_and_file(self):
        for name in ("AskedError",) + NAMES:
            with self.subTest(name):
                error = getattr(errors, name)
                self.assertEqual((error.__name__, error.__module__), (name, "anyasked.errors"))

    def test_all_are_different(self):
        self.assertEqual(len(set(self.all_classes())), 24)

    def test_keeps_the_very_value(self):
        for error in self.all_classes():
            for value in any_values():
                self.assertIs(error(value).value, value)

    def test_raised_and_caught(self):
        for error in self.all_classes():
            value = [error.__name__]
            for caught_as in (error, errors.AskedError, ValueError):
                with self.subTest(error.__name__):
                    with self.assertRaises(caught_as) as caught:
                        raise error(value)
                    self.assertIs(caught.exception.value, value)

    def test_each_keeps_its_own_value(self):
        for error in self.all_classes():
            one, other = error(1), error(2)
            self.assertEqual((one.value, other.value), (1, 2))

    def test_siblings_are_not_caught(self):
        for name in NAMES:
            for other in NAMES:
                if name != other:
                    self.assertNotIsInstance(getattr(errors, name)(None), getattr(errors, other))


if __name__ == "__main__":
    unittest.main()
