"""Point 8 and the interface under walkdues/errors.py."""

import copy
import inspect
import pickle
import unittest

from helper import ERRORS
from walkdues import errors
from walkdues.errors import DuesError

NO_TEXT = 10 ** 5000


class Unprintable:
    """A value that cannot be shown."""

    def __repr__(self):
        raise RuntimeError("not to be shown")

    __str__ = __repr__


VALUES = [
    0, -1, 7, NO_TEXT, True, None, "", "a", "two words\n", b"b", 1.5, (1, "x"), [], [1, [2]], {"a": 1}, {3},
    len, ValueError, Unprintable(),
]


def class_called(name):
    return getattr(errors, name)


class ErrorClasses(unittest.TestCase):
    def test_the_base(self):
        self.assertEqual(DuesError.__bases__, (ValueError,))
        self.assertIsInstance(DuesError(), ValueError)
        self.assertEqual(str(DuesError("why")), "why")

    def test_just_the_listed_classes(self):
        found = [name for name, value in vars(errors).items() if inspect.isclass(value)]
        self.assertEqual(sorted(found), sorted(["DuesError", *ERRORS]))
        self.assertEqual(len(ERRORS), 29)

    def test_each_is_a_direct_subclass(self):
        for name in ERRORS:
            with self.subTest(name):
                self.assertEqual(class_called(name).__bases__, (DuesError,))
                self.assertEqual(class_called(name).__module__, "walkdues.errors")

    def test_each_is_no_other_error_of_the_package(self):
        for name, attributes in ERRORS.items():
            error = class_called(name)(*attributes)
            self.assertIsInstance(error, DuesError)
            self.assertIsInstance(error, ValueError)
            for other in ERRORS:
                with self.subTest(f"{name} and {other}"):
                    self.assertEqual(isinstance(error, class_called(other)), name == other)


class Attributes(unittest.TestCase):
    def assert_attributes(self, error, attributes, values):
        self.assertEqual(list(vars(error)), list(attributes))
        for attribute, value in zip(attributes, values):
            self.assertIs(getattr(error, attribute), value)

    def test_by_position_in_order(self):
        for name, attributes in ERRORS.items():
            with self.subTest(name):
                values = [f"the {attribute}" for attribute in attributes]
                self.assert_attributes(class_called(name)(*values), attributes, values)

    def test_by_name(self):
        for name, attributes in ERRORS.items():
            with self.subTest(name):
                values = {attribute: f"the {attribute}" for attribute in reversed(attributes)}
                error = class_called(name)(**values)
                self.assert_attributes(error, attributes, [values[attribute] for attribute in attributes])

    def test_any_values(self):
        for name, attributes in ERRORS.items():
            for first in range(len(VALUES)):
                with self.subTest(f"{name} {first}"):
                    values = [VALUES[(first + place) % len(VALUES)] for place in range(len(attributes))]
                    self.assert_attributes(class_called(name)(*values), attributes, values)

    def test_too_few_values(self):
        for name, attributes in ERRORS.items():
            if attributes:
                with self.subTest(name), self.assertRaises(TypeError):
                    class_called(name)(*attributes[1:])

    def test_raised_and_caught(self):
        for name, attributes in ERRORS.items():
            with self.subTest(name):
                try:
                    raise class_called(name)(*attributes)
                except DuesError as error:
                    self.assert_attributes(error, attributes, attributes)

    def test_message_and_copies_tell_the_values(self):
        self.assertEqual(repr(errors.OutOfRange("cost", 10)), "OutOfRange('cost', 10)")
        for name, attributes in ERRORS.items():
            error = class_called(name)(*attributes)
            for other in (copy.copy(error), pickle.loads(pickle.dumps(error))):
                with self.subTest(name):
                    self.assertIs(type(other), type(error))
                    self.assertEqual(vars(other), vars(error))


if __name__ == "__main__":
    unittest.main()
