"""The interface, "pricespin/errors.py"."""

import copy
import pickle
import unittest

from pricespin import errors
from pricespin.errors import InvalidLine, InvalidText, SpinError

PLAIN_NAMES = [
    "InvalidTerm", "InvalidRules", "InvalidPrices", "InvalidPrice", "InvalidNumber", "InvalidShop", "TooMany",
    "InvalidOrder", "InvalidLog", "InvalidLimits", "NotQuiet", "NothingToUndo", "NothingToRedo", "UnknownDeed",
    "InvalidKind", "InvalidSeen",
]
NAMES = PLAIN_NAMES + ["InvalidText", "InvalidLine"]


def created(name):
    """The class's objects, one for each way in which it may be created."""
    made = getattr(errors, name)
    if name == "InvalidText":
        return [made(7), made(at=7), made(0), made(-1), made(10 ** 5000)]
    if name == "InvalidLine":
        return [made(7, "rule"), made(line=7, reason="rule"), made(7, reason=""), made(-10 ** 5000, "a b\n")]
    return [made(), made("why"), made("")]


class TestErrors(unittest.TestCase):
    def test_base_class(self):
        self.assertTrue(issubclass(SpinError, ValueError))
        self.assertEqual(SpinError.__module__, "pricespin.errors")
        for error in (SpinError(), SpinError("why")):
            self.assertIsInstance(error, SpinError)
            with self.assertRaises(ValueError):
                raise error

    def test_each_class_is_defined_in_its_file(self):
        for name in NAMES:
            self.assertEqual(getattr(errors, name).__module__, "pricespin.errors", name)
            self.assertEqual(getattr(errors, name).__name__, name)

    def test_each_object_is_of_its_kind_and_of_none_of_the_others(self):
        for name in NAMES:
            for error in created(name):
                self.assertIsInstance(error, SpinError)
                self.assertIsInstance(error, ValueError)
                for other in NAMES:
                    self.assertEqual(isinstance(error, getattr(errors, other)), other == name, (name, other))

    def test_each_object_is_raised_and_caught_by_its_name(self):
        for name in NAMES:
            for error in created(name):
                with self.assertRaises(getattr(errors, name)) as caught:
                    raise error
                self.assertIs(caught.exception, error)

    def test_the_string_is_the_message(self):
        for name in PLAIN_NAMES + ["SpinError"]:
            self.assertEqual(str(getattr(errors, name)("why so")), "why so")
            self.assertEqual(str(getattr(errors, name)()), "")

    def test_attributes_stand_in_each_object(self):
        one, other = InvalidText(3), InvalidText(at=8)
        self.assertEqual([one.at, other.at, one.at], [3, 8, 3])
        first, second = InvalidLine(2, "shop"), InvalidLine(reason="log", line=5)
        self.assertEqual([first.line, first.reason], [2, "shop"])
        self.assertEqual([second.line, second.reason], [5, "log"])
        self.assertEqual([first.line, first.reason], [2, "shop"])
        self.assertEqual([vars(one), vars(second)], [{"at": 3}, {"line": 5, "reason": "log"}])
        for made, names in ((InvalidText, ["at"]), (InvalidLine, ["line", "reason"])):
            for name in names:
                self.assertFalse(hasattr(made, name), "set on objects, not on the class")

    def test_a_change_to_one_object_leaves_the_other(self):
        one, other = InvalidLine(1, "price"), InvalidLine(1, "price")
        one.line, one.reason = 9, "line"
        self.assertEqual([other.line, other.reason], [1, "price"])

    def test_any_integers_and_strings(self):
        self.assertEqual(InvalidText(10 ** 5000).at, 10 ** 5000)
        self.assertEqual(InvalidText(-4).at, -4)
        error = InvalidLine(-10 ** 5000, "x" * 2000)
        self.assertEqual([error.line, error.reason], [-10 ** 5000, "x" * 2000])

    def test_copies_have_the_same_attributes(self):
        for error in (InvalidText(3), InvalidLine(2, "shop")):
            for other in (copy.copy(error), pickle.loads(pickle.dumps(error))):
                self.assertEqual([type(other), vars(other)], [type(error), vars(error)])


if __name__ == "__main__":
    unittest.main()
