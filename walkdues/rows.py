"""Rows: endless rows of integers that repeat from some index on, with a gain at each repetition."""

from math import lcm

from walkdues.errors import BadRow, Falling, OutOfRange, TooLong

PERIOD_LIMIT = 5000


class Row:
    """A row, kept with its least period and the least start for this period. It never changes."""

    def __init__(self, head, period, gain):
        if not 1 <= period <= len(head):
            raise BadRow()
        values = list(head)
        differences = last_differences(values, period, gain)
        self.period = least_period(differences)
        self.gain = sum(differences[:self.period])
        self.start = least_start(values, len(values) - period, self.period, self.gain)
        self._head = values[:self.start + self.period]

    @staticmethod
    def steady(slope):
        """The row with the value slope * t at each index t."""
        return Row([0], 1, slope)

    @staticmethod
    def step(cost, deadline):
        """The row with the value 0 below the index deadline and cost from it on."""
        return Row([0] * deadline + [cost], 1, 0)

    @property
    def head(self):
        """The first start + period values."""
        return list(self._head)

    def __call__(self, index):
        if index < 0:
            raise OutOfRange("index", index)
        return self._value(index)

    def __eq__(self, other):
        # There is only one way to describe a row, so equal rows have equal descriptions.
        return (
            isinstance(other, Row)
            and self.period == other.period
            and self.gain == other.gain
            and self._head == other._head
        )

    def __contains__(self, pair):
        cost, deadline = pair
        return cost <= self._value(deadline)

    def __add__(self, other):
        return combined(self, other, 1)

    def minus(self, other):
        """The row of the differences of the values."""
        return combined(self, other, -1)

    def covers(self, other):
        """Tells whether no value of this row is less than the one of the other row."""
        return first_below(self, other) is None

    def lowest_ahead(self):
        """The row of the least values from each index on."""
        if self.gain < 0:
            raise Falling(self.gain)
        length = self.start + self.period
        # Behind the start no value is less than the one a period before it, so one more period is far enough.
        values = self._values(length + self.period)
        return Row(least_ahead(values)[:length], self.period, self.gain)

    def _value(self, index):
        if index < self.start:
            return self._head[index]
        turns, rest = divmod(index - self.start, self.period)
        return self._head[self.start + rest] + turns * self.gain

    def _values(self, count):
        return [self._value(index) for index in range(count)]


def last_differences(values, period, gain):
    """The differences from each value to the next one over one period, from where they repeat without end."""
    before = values[len(values) - period:]
    after = before[1:] + [before[0] + gain]
    return [high - low for low, high in zip(before, after)]


def least_period(differences):
    """The least period of the endless repetition of the differences; it divides their number."""
    period = 1
    # Only a divisor can be the least one; this is asked first because it is faster than to compare.
    while len(differences) % period != 0 or differences[period:] + differences[:period] != differences:
        period = period + 1
    return period


def least_start(values, start, period, gain):
    """The least index from which on the period and the gain hold; it is known that they do from start on."""
    while start > 0 and values[start - 1 + period] == values[start - 1] + gain:
        start = start - 1
    return start


def least_ahead(values):
    """For each place the least of the values from there on."""
    least = list(values)
    for place in range(len(values) - 2, -1, -1):
        least[place] = min(least[place], least[place + 1])
    return least


def combined(row, other, sign):
    """The row of the sums of the values of a row and sign times those of the other one."""
    period = lcm(row.period, other.period)
    check_period(period)
    length = max(row.start, other.start) + period
    head = [value + sign * more for value, more in zip(row._values(length), other._values(length))]
    gain = period // row.period * row.gain + sign * (period // other.period * other.gain)
    return Row(head, period, gain)


def check_period(period):
    """Raises TooLong if the period is above the limit."""
    if period > PERIOD_LIMIT:
        raise TooLong(period)


def first_below(row, other):
    """The least index at which the value of a row is less than the one of the other; None if there is none."""
    return first_negative(row.minus(other))


def first_negative(row):
    """The least index at which the value of a row is below 0; None if there is none."""
    head = row.head
    for index, value in enumerate(head):
        if value < 0:
            return index
    if row.gain >= 0:
        return None
    # At each place of the first period, the value falls by the same amount with each turn.
    fall = -row.gain
    places = range(row.start, len(head))
    return min([place + (head[place] // fall + 1) * row.period for place in places])
