"""The errors of the package.

The arguments of each constructor are kept as the attributes of the error.
"""


class DuesError(ValueError):
    """Every error of the package is one of these."""


class BadName(DuesError):
    """A string that is not a name stands where a name is asked for."""

    def __init__(self, name):
        self.name = name


class WrongCount(DuesError):
    """There are too few or too many of what is counted."""

    def __init__(self, what, count):
        self.what = what
        self.count = count


class OutOfRange(DuesError):
    """An integer is not in its range."""

    def __init__(self, what, value):
        self.what = what
        self.value = value


class Repeated(DuesError):
    """Two kinds of a task have the same name."""

    def __init__(self, name):
        self.name = name


class RepeatedArrow(DuesError):
    """Two arrows of a task lead from the same kind to the same kind."""

    def __init__(self, first, second):
        self.first = first
        self.second = second


class UnknownKind(DuesError):
    """A task has no kind with this name."""

    def __init__(self, name):
        self.name = name


class UnknownArrow(DuesError):
    """A task has no arrow from the first kind to the second."""

    def __init__(self, first, second):
        self.first = first
        self.second = second


class BadLine(DuesError):
    """A line of a text, with this number, is not one that may stand there."""

    def __init__(self, line):
        self.line = line


class BadCost(DuesError):
    """The cost of a job of a walk is not one that its kind allows."""

    def __init__(self, task, place):
        self.task = task
        self.place = place


class BadRelease(DuesError):
    """The release of a job of a walk is negative."""

    def __init__(self, task, place):
        self.task = task
        self.place = place


class NoArrow(DuesError):
    """No arrow leads to a job of a walk from the job before."""

    def __init__(self, task, place):
        self.task = task
        self.place = place


class GapTooShort(DuesError):
    """A job of a walk is released too soon after the job before."""

    def __init__(self, task, place):
        self.task = task
        self.place = place


class UnknownJob(DuesError):
    """A slice of a schedule is of a job that the run does not have."""

    def __init__(self, place):
        self.place = place


class EmptySlice(DuesError):
    """A slice of a schedule does not end after it starts."""

    def __init__(self, place):
        self.place = place


class Overlap(DuesError):
    """A slice of a schedule starts before the slice before ends."""

    def __init__(self, place):
        self.place = place


class TooEarly(DuesError):
    """A slice of a schedule starts before its job is released."""

    def __init__(self, place):
        self.place = place


class WrongAmount(DuesError):
    """The slices of a job do not add up to its cost."""

    def __init__(self, job):
        self.job = job


class BadRow(DuesError):
    """The period of a row does not go with its head."""


class TooLong(DuesError):
    """An operation would have to go through a period above the limit."""

    def __init__(self, period):
        self.period = period


class Falling(DuesError):
    """A row falls without end."""

    def __init__(self, gain):
        self.gain = gain


class BadCalendar(DuesError):
    """A string is no calendar."""

    def __init__(self, calendar):
        self.calendar = calendar


class Overloaded(DuesError):
    """The utilization, cost / length, is more than what the processor does."""

    def __init__(self, cost, length):
        self.cost = cost
        self.length = length


class LateSet(DuesError):
    """The first or the second list of tasks can be late."""

    def __init__(self, which):
        self.which = which


class Clash(DuesError):
    """An admitted try clashes with a refused one, or with itself."""

    def __init__(self, admitted, refused):
        self.admitted = admitted
        self.refused = refused


class NotOpen(DuesError):
    """The tries leave only this answer."""

    def __init__(self, answer):
        self.answer = answer


class Refused(DuesError):
    """With this task, the demand would be above the service."""

    def __init__(self, name, ticks, excess):
        self.name = name
        self.ticks = ticks
        self.excess = excess


class Present(DuesError):
    """An admitted task has this name already."""

    def __init__(self, name):
        self.name = name


class Absent(DuesError):
    """No admitted task has this name."""

    def __init__(self, name):
        self.name = name


class NothingToUndo(DuesError):
    """There is no deed that can be taken back."""
