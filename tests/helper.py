"""What the tests share: the errors of the interface, and a check of what a call raises."""

import unittest

# The attributes of each error class, in the order in which the interface lists them.
ERRORS = {
    "BadName": ("name",),
    "WrongCount": ("what", "count"),
    "OutOfRange": ("what", "value"),
    "Repeated": ("name",),
    "RepeatedArrow": ("first", "second"),
    "UnknownKind": ("name",),
    "UnknownArrow": ("first", "second"),
    "BadLine": ("line",),
    "BadCost": ("task", "place"),
    "BadRelease": ("task", "place"),
    "NoArrow": ("task", "place"),
    "GapTooShort": ("task", "place"),
    "UnknownJob": ("place",),
    "EmptySlice": ("place",),
    "Overlap": ("place",),
    "TooEarly": ("place",),
    "WrongAmount": ("job",),
    "BadRow": (),
    "TooLong": ("period",),
    "Falling": ("gain",),
    "BadCalendar": ("calendar",),
    "Overloaded": ("cost", "length"),
    "LateSet": ("which",),
    "Clash": ("admitted", "refused"),
    "NotOpen": ("answer",),
    "Refused": ("name", "ticks", "excess"),
    "Present": ("name",),
    "Absent": ("name",),
    "NothingToUndo": (),
}


class DuesCase(unittest.TestCase):
    """A test case that can ask for one error with its attributes."""

    def assert_error(self, wanted, values, call, *args, **more):
        """The call raises an error of just this class, with these values as its attributes."""
        with self.assertRaises(wanted) as caught:
            call(*args, **more)
        error = caught.exception
        self.assertIs(type(error), wanted)
        told = tuple(getattr(error, name) for name in ERRORS[wanted.__name__])
        self.assertEqual(told, values)
