"""The interface under lowturns/errors.py, and what [2] says of errors."""

import inspect
import unittest

from lowturns import errors
from tests.samples import FAR, ODD, same

TURN_ERRORS = {
    "InvalidPrime": ["given"], "InvalidFigure": ["given"], "InvalidSetting": ["given"],
    "InvalidCount": ["given"], "InvalidState": ["at"], "InvalidStart": ["given"], "InvalidText": [],
    "InvalidLine": ["line"], "NotATurn": ["given"], "LooksUp": ["given"], "InvalidCounts": [],
    "InvalidTable": ["dial"], "PrimesDiffer": [], "TooMany": ["most"], "NotSingle": [],
    "NoRelabelling": ["at"], "InvalidName": ["name"], "DuplicateName": ["name"], "WrongKind": ["name"],
    "Full": ["most"], "InUse": ["user"], "InvalidCommand": ["word"], "InvalidLimit": ["given"],
    "InvalidPage": ["line"],
}
MISSING = {"UnknownState": ["given"], "UnknownName": ["name"]}
ALL = {**TURN_ERRORS, **MISSING, "NothingLeft": []}
VALUES = ODD + FAR + [0, -1, 240, "abc", (1, "turner", [2])]


def made(name, value):
    """The error with this value for its parameter, or without one."""
    return getattr(errors, name)(*[value for _ in ALL[name]])


class Bases(unittest.TestCase):
    def test_base_classes(self):
        self.assertEqual(errors.TurnError.__bases__, (ValueError,))
        self.assertEqual(errors.Missing.__bases__, (LookupError,))
        self.assertEqual(errors.NothingLeft.__bases__, (IndexError,))
        for name in TURN_ERRORS:
            self.assertEqual(getattr(errors, name).__bases__, (errors.TurnError,), name)
        for name in MISSING:
            self.assertEqual(getattr(errors, name).__bases__, (errors.Missing,), name)

    def test_no_class_is_under_another_one(self):
        for name in ALL:
            for other in ALL:
                under = issubclass(getattr(errors, name), getattr(errors, other))
                self.assertEqual(under, name == other, (name, other))

    def test_nothing_left_is_under_neither(self):
        self.assertNotIsInstance(errors.NothingLeft(), (errors.TurnError, errors.Missing))
        self.assertFalse(issubclass(errors.Missing, errors.TurnError))
        self.assertFalse(issubclass(errors.TurnError, errors.Missing))

    def test_the_list_is_whole(self):
        found = [name for name, value in vars(errors).items() if inspect.isclass(value)]
        self.assertEqual(sorted(found), sorted([*ALL, "TurnError", "Missing"]))
        for name in found:
            self.assertEqual(getattr(errors, name).__module__, "lowturns.errors")
            self.assertEqual(getattr(errors, name).__name__, name)

    def test_they_are_caught_by_their_bases(self):
        for name in ALL:
            base = ValueError if name in TURN_ERRORS else LookupError
            with self.assertRaises(base):
                raise made(name, 4)


class Values(unittest.TestCase):
    def test_code_and_details(self):
        for name, parameters in ALL.items():
            for value in VALUES:
                error = made(name, value)
                self.assertEqual(error.code, name)
                self.assertTrue(same(error.details, tuple(value for _ in parameters)), (name, value))

    def test_parameters_are_attributes(self):
        for name, parameters in ALL.items():
            for value in VALUES:
                error = made(name, value)
                for parameter in parameters:
                    self.assertTrue(same(getattr(error, parameter), value), (name, value))

    def test_parameters_by_name(self):
        for name, parameters in ALL.items():
            error = getattr(errors, name)(**{parameter: 11 for parameter in parameters})
            self.assertEqual(error.details, (11,) * len(parameters))
            for parameter in parameters:
                self.assertEqual(getattr(error, parameter), 11)

    def test_other_numbers_of_arguments(self):
        for name, parameters in ALL.items():
            error = getattr(errors, name)
            self.assertRaises(TypeError, error, *[1 for _ in range(len(parameters) + 1)])
            self.assertRaises(TypeError, error, other=1)
            if parameters:
                self.assertRaises(TypeError, error)

    def test_the_message_is_a_string(self):
        for name in ALL:
            for value in VALUES:
                self.assertIsInstance(str(made(name, value)), str)
                self.assertNotEqual(str(made(name, value)), "")

    def test_bases_stand_for_themselves(self):
        self.assertIsInstance(errors.TurnError(), ValueError)
        self.assertIsInstance(errors.Missing(), LookupError)


class Copies(unittest.TestCase):
    def test_lists_are_copied(self):
        for name, parameters in ALL.items():
            if parameters:
                inner = [1]
                value = [inner, (inner, 2)]
                error = made(name, value)
                inner.append(3)
                value.append(4)
                self.assertEqual(getattr(error, parameters[0]), [[1], ([1], 2)])
                self.assertEqual(error.details, ([[1], ([1], 2)],))

    def test_the_value_stays_unchanged(self):
        for name, parameters in ALL.items():
            value = [[1], ([2], "x")]
            error = made(name, value)
            for parameter in parameters:
                getattr(error, parameter)[0].append(5)
                self.assertEqual(error.details, ([[1], ([2], "x")],))
            self.assertEqual(value, [[1], ([2], "x")])
