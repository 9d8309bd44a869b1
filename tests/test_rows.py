"""Points 51 to 58, and point 9: rows, their one description, and what is done with them."""

import math
import random
import unittest

from helper import DuesCase
from walkdues.errors import BadRow, Falling, OutOfRange, TooLong
from walkdues.rows import PERIOD_LIMIT, Row, first_below

HUGE = 10 ** 40


def value_of(head, period, gain, index):
    """The value as the document says it: back by a period again and again."""
    total = 0
    while index >= len(head):
        index -= period
        total += gain
    return head[index] + total


def values_of(row, count):
    return [row(index) for index in range(count)]


def description_of(head, period, gain):
    """The least period, its gain, the least start and the first values, by trying all of them."""
    values = [value_of(head, period, gain, index) for index in range(len(head) + 4 * period)]
    for least in range(1, period + 1):
        steps = [after - before for before, after in zip(values, values[least:])]
        # What holds from some index on holds in each of the last periods.
        if len(set(steps[len(head):])) == 1:
            start = len(head)
            while start > 0 and steps[start - 1] == steps[-1]:
                start -= 1
            return (least, steps[-1], start, values[:start + least])
    raise AssertionError("the period itself holds")


def describe(row):
    return (row.period, row.gain, row.start, row.head)


def some_arguments(chance, most_period=8, most_start=9, spread=3):
    """A head, a period and a gain, often of a row with a lesser period."""
    period = chance.randint(1, most_period)
    head = [chance.randint(-spread, spread) for _ in range(chance.randint(0, most_start) + period)]
    gain = chance.randint(-spread, spread)
    times = chance.choice([1, 1, 2, 3])
    length = len(head) + (times - 1) * period + chance.choice([0, 1, period])
    return ([value_of(head, period, gain, index) for index in range(length)], times * period, times * gain)


def some_row(chance, **bounds):
    return Row(*some_arguments(chance, **bounds))


def lagging_row(period):
    """A row with just this least period: 0 up to the last index, where it is 1."""
    return Row([0] * (period - 1) + [1], period, 0)


class Values(DuesCase):
    def test_many_rows(self):
        chance = random.Random(51)
        for _ in range(300):
            head, period, gain = some_arguments(chance)
            row = Row(head, period, gain)
            for index in list(range(60)) + [200, 999]:
                self.assertEqual(row(index), value_of(head, period, gain, index))

    def test_large_indexes(self):
        row = Row([7, 0, 4, 3, 5], 3, 2)
        # The values 4, 3 and 5 at 2, 3 and 4 repeat with 2 more at each turn.
        self.assertEqual(row(2 + 3 * HUGE), 4 + 2 * HUGE)
        self.assertEqual(row(3 + 3 * HUGE), 3 + 2 * HUGE)
        self.assertEqual(row(4 + 3 * HUGE), 5 + 2 * HUGE)
        self.assertEqual(Row([0, 4, 3, 5, 6, 5, 7, 8], 6, 4)(1000002), 666671)

    def test_large_values(self):
        row = Row([HUGE, -HUGE], 1, HUGE * HUGE)
        self.assertEqual([row(0), row(1), row(2), row(11)], [
            HUGE, -HUGE, HUGE * HUGE - HUGE, 10 * HUGE * HUGE - HUGE
        ])

    def test_a_negative_gain(self):
        row = Row([5, 6, 9], 2, -4)
        self.assertEqual(values_of(row, 8), [5, 6, 9, 2, 5, -2, 1, -6])

    def test_negative_indexes(self):
        for row in (Row([0], 1, 0), Row([3, 4, 5], 2, 1)):
            for index in (-1, -2, -3, -4, -HUGE):
                self.assert_error(OutOfRange, ("index", index), row, index)

    def test_bad_rows(self):
        for head in ([], [1], [1, 2, 3]):
            for period in (0, -1, -HUGE, len(head) + 1, len(head) + 2, HUGE):
                self.assert_error(BadRow, (), Row, head, period, 0)
                self.assert_error(BadRow, (), Row, head, period, 5)
            for period in range(1, len(head) + 1):
                self.assertEqual(Row(head, period, 0)(0), head[0])

    def test_periods_above_the_limit_may_stand_in_a_row(self):
        row = lagging_row(5001)
        self.assertEqual([row.period, row(5000), row(5001), row(10001)], [5001, 1, 0, 1])

    def test_heads_of_five_thousand(self):
        head = [index * index % 4999 for index in range(5000)]
        for period in (1, 2, 2500, 4999, 5000):
            row = Row(head, period, 1)
            for index in (0, 1, 4999, 5000, 5001, 9999, 10000):
                self.assertEqual(row(index), value_of(head, period, 1, index))


class Description(DuesCase):
    def test_many_rows(self):
        chance = random.Random(52)
        for _ in range(600):
            arguments = some_arguments(chance, spread=chance.choice([1, 3]))
            self.assertEqual(describe(Row(*arguments)), description_of(*arguments))

    def test_one_description_of_equal_rows(self):
        chance = random.Random(53)
        for _ in range(200):
            head, period, gain = some_arguments(chance)
            row = Row(head, period, gain)
            for times in (1, 2, 3, 6):
                for more in (0, 1, period, 5 * period + 3):
                    count = len(head) + (times - 1) * period + more
                    longer = [value_of(head, period, gain, index) for index in range(count)]
                    other = Row(longer, times * period, times * gain)
                    self.assertEqual(describe(other), describe(row))
                    self.assertTrue(other == row)

    def test_known_descriptions(self):
        self.assertEqual(describe(Row([0, 4, 3, 5, 6, 5, 7, 8], 6, 4)), (3, 2, 1, [0, 4, 3, 5]))
        self.assertEqual(describe(Row([0, 1, 2, 3], 4, 4)), (1, 1, 0, [0]))
        self.assertEqual(describe(Row([0, 1, 2, 3], 4, 5)), (4, 5, 0, [0, 1, 2, 3]))
        self.assertEqual(describe(Row([5, 1, 2, 3], 3, 3)), (1, 1, 1, [5, 1]))
        self.assertEqual(describe(Row([9, 9, 9], 2, 0)), (1, 0, 0, [9]))
        self.assertEqual(describe(Row([1, 2, 1, 2, 1, 2], 6, 0)), (2, 0, 0, [1, 2]))
        self.assertEqual(describe(Row([1, 2, 1, 2, 1, 2], 4, 0)), (2, 0, 0, [1, 2]))
        self.assertEqual(describe(Row([1, 2, 1, 2, 1, 2], 3, 0)), (3, 0, 3, [1, 2, 1, 2, 1, 2]))
        self.assertEqual(describe(Row([1, 1, 2, 3, 3, 4], 4, 2)), (2, 1, 2, [1, 1, 2, 3]))

    def test_a_period_that_needs_the_gain(self):
        # With the gain 6 the differences repeat after two indexes, with another one they do not.
        self.assertEqual(describe(Row([0, 1, 3, 4], 4, 6)), (2, 3, 0, [0, 1]))
        self.assertEqual(describe(Row([0, 1, 3, 4], 4, 7)), (4, 7, 0, [0, 1, 3, 4]))

    def test_the_last_difference_of_the_start(self):
        self.assertEqual(describe(Row([3, 0, 1, 2], 2, 2)), (1, 1, 1, [3, 0]))
        self.assertEqual(describe(Row([-1, 0, 1, 2], 2, 2)), (1, 1, 0, [-1]))

    def test_kinds_of_values(self):
        row = Row([3, 0, 1], 2, 2)
        self.assertEqual({type(value) for value in (row.period, row.gain, row.start, *row.head)}, {int})
        self.assertIs(type(row.head), list)
        self.assertIsInstance(vars(Row)["head"], property)
        for name in ("steady", "step"):
            self.assertIsInstance(vars(Row)[name], staticmethod)
        self.assertEqual(describe(Row(head=[1], period=1, gain=2)), (1, 2, 0, [1]))

    def test_what_is_passed_and_returned(self):
        head = [3, 0, 1, 5]
        row = Row(head, 2, 2)
        kept = describe(row)
        self.assertEqual(head, [3, 0, 1, 5])
        head[1] = 99
        head.append(7)
        row.head[0] = 99
        row.head.clear()
        self.assertEqual([describe(row), row(0), row(1)], [kept, 3, 0])
        self.assertIsNot(row.head, row.head)


class Comparison(DuesCase):
    def test_equal_and_different(self):
        row = Row([0, 4, 3, 5], 3, 2)
        others = [
            Row([1, 4, 3, 5], 3, 2), Row([0, 4, 3, 6], 3, 2), Row([0, 4, 3, 5], 3, 3), Row([0, 4, 3, 5], 2, 2),
            Row([0, 4, 3, 5], 4, 2), Row([0, 4, 3, 5, 5], 3, 2), Row.steady(0),
        ]
        self.assertIs(row == Row([0, 4, 3, 5, 6], 3, 2), True)
        self.assertIs(row != Row([0, 4, 3, 5, 6], 3, 2), False)
        for other in others:
            self.assertIs(row == other, False)
            self.assertIs(row != other, True)

    def test_rows_that_differ_in_one_part(self):
        self.assertFalse(Row([1, 1], 1, 0) == Row([1, 1], 1, 1))
        self.assertFalse(Row([1], 1, 0) == Row([1], 1, 1))
        self.assertFalse(Row([1, 2], 2, 0) == Row([1, 2], 1, 0))
        self.assertFalse(Row([1, 2], 1, 0) == Row([1, 3], 1, 0))

    def test_a_row_is_equal_to_nothing_else(self):
        for other in (0, None, [0], (0, 1)):
            self.assertIs(Row.steady(0) == other, False)
            self.assertIs(Row.steady(0) != other, True)

    def test_values_decide(self):
        chance = random.Random(54)
        rows = [some_row(chance, most_period=2, most_start=2, spread=1) for _ in range(60)]
        for row in rows:
            for other in rows:
                self.assertIs(row == other, values_of(row, 30) == values_of(other, 30))

    def test_in(self):
        row = Row([0, 4, 3, 5], 3, 2)
        for deadline in list(range(12)) + [1000002, 3 * HUGE + 1]:
            value = row(deadline)
            for cost in (value - 1, value, -HUGE * HUGE):
                self.assertIs((cost, deadline) in row, True)
                self.assertIs((cost, deadline) not in row, False)
            for cost in (value + 1, HUGE * HUGE):
                self.assertIs((cost, deadline) in row, False)


class Steady(DuesCase):
    def test_slopes(self):
        for slope in (0, 1, 2, 99, -1, -7, HUGE, -HUGE):
            row = Row.steady(slope)
            self.assertEqual(describe(row), (1, slope, 0, [0]))
            self.assertEqual([row(0), row(1), row(5), row(HUGE)], [0, slope, 5 * slope, HUGE * slope])

    def test_steps(self):
        for cost in (1, 9, -4, HUGE):
            for deadline in (1, 2, 99, 5000):
                row = Row.step(cost, deadline)
                self.assertEqual(describe(row), (1, 0, deadline, [0] * deadline + [cost]))
                self.assertEqual([row(0), row(deadline - 1), row(deadline), row(HUGE)], [0, 0, cost, cost])
            self.assertEqual(describe(Row.step(cost, 0)), (1, 0, 0, [cost]))
        for deadline in (0, 1, 5000):
            self.assertEqual(describe(Row.step(0, deadline)), (1, 0, 0, [0]))


class Sums(DuesCase):
    def test_many_rows(self):
        chance = random.Random(55)
        for _ in range(300):
            row, other = some_row(chance), some_row(chance)
            count = 2 * (len(row.head) + len(other.head)) + 2 * row.period * other.period
            mine, yours = values_of(row, count), values_of(other, count)
            self.assertEqual(values_of(row + other, count), [one + two for one, two in zip(mine, yours)])
            self.assertEqual(values_of(row.minus(other), count), [one - two for one, two in zip(mine, yours)])
            for index in (10 ** 6 + 1, HUGE):
                self.assertEqual((row + other)(index), row(index) + other(index))
                self.assertEqual(row.minus(other)(index), row(index) - other(index))

    def test_the_least_description(self):
        row, other = Row([9, 1, 2], 2, 5), Row([0, 0, 1], 3, 1)
        self.assertEqual((row + other).minus(other), row)
        self.assertEqual(row.minus(row), Row.steady(0))
        self.assertEqual(describe(Row([0, 1], 2, 0) + Row([1, 0], 2, 0)), (1, 0, 0, [1]))
        self.assertEqual(describe(Row([0, 1], 2, 0).minus(Row([0, 1, 2], 3, 0)))[:3], (6, 0, 0))

    def test_gains_of_several_periods(self):
        row = Row([0, 1], 2, 3) + Row([0, 1, 5], 3, 7)
        self.assertEqual([row.period, row.gain, row.start], [6, 23, 0])
        row = Row([0, 1], 2, 3).minus(Row([0, 1, 5], 3, 7))
        self.assertEqual([row.period, row.gain, row.start], [6, -5, 0])

    def test_steps_and_steady_rows(self):
        row = Row.step(4, 3) + Row.steady(2) + Row.step(-4, 5)
        self.assertEqual(values_of(row, 8), [0, 2, 4, 10, 12, 10, 12, 14])
        self.assertEqual([row.start, row.period, row.gain], [5, 1, 2])
        row = Row.step(1, 5000) + lagging_row(5000)
        self.assertEqual([row.start, row.period, row.gain], [5000, 5000, 0])
        self.assertEqual([row(4998), row(4999), row(5000), row(9998), row(9999)], [0, 1, 1, 1, 2])

    def test_the_rows_stay_as_they_are(self):
        row, other = Row([0, 4, 3, 5], 3, 2), Row([1, 0], 2, 1)
        kept = [describe(row), describe(other)]
        for told in (row + other, row.minus(other), row.lowest_ahead()):
            told.head.clear()
        first_below(row, other)
        row.covers(other)
        self.assertEqual([describe(row), describe(other)], kept)


def searched_below(row, other, count):
    return next((index for index in range(count) if row(index) < other(index)), None)


class Below(DuesCase):
    def check(self, row, other, wanted):
        self.assertEqual(first_below(row, other), wanted)
        self.assertIs(row.covers(other), wanted is None)

    def test_many_rows(self):
        chance = random.Random(56)
        for _ in range(400):
            row = some_row(chance, spread=chance.choice([1, 3]))
            other = some_row(chance, spread=chance.choice([1, 3]))
            # Each turn of the joint period changes the difference, or it never changes.
            count = 40 + 20 * row.period * other.period
            self.check(row, other, searched_below(row, other, count))

    def test_in_the_heads(self):
        self.check(Row([0, 5, 9], 1, 9), Row([0, 6, 1], 1, 1), 1)
        self.check(Row([0], 1, 9), Row([1, 0], 1, 0), 0)
        self.check(Row([0, 0, 0, 7], 1, 0), Row([0, 0, 0, 8, 0], 1, 0), 3)

    def test_in_the_head_of_the_longer_row(self):
        self.check(Row.steady(1), Row.step(9, 5), 5)
        self.check(Row.step(9, 5), Row.steady(1), 1)
        self.check(Row.steady(0), Row.step(1, 5000), 5000)
        self.check(Row.step(-1, 5000), Row.steady(0), 5000)

    def test_far_behind_the_heads(self):
        self.check(Row([HUGE], 1, 0), Row.steady(1), HUGE + 1)
        self.check(Row([HUGE, 0], 2, 0), Row([0, -HUGE], 2, 1), 2 * HUGE + 2)
        self.check(Row([HUGE], 1, 1), Row([0], 1, 3), HUGE // 2 + 1)

    def test_the_least_of_several_places(self):
        # At the even indexes the difference is 10 and falls by 1, at the odd ones 4.
        self.check(Row([10, 4], 2, 0), Row([0, 0], 2, 1), 11)
        # At both places the difference is below 0 after as many turns: the first place is told.
        self.check(Row([4, 4], 2, 0), Row([0, 0], 2, 1), 10)
        self.check(Row([5, 4], 2, 0), Row([0, 0], 2, 1), 11)

    def test_a_difference_that_just_reaches_0(self):
        self.check(Row([6], 1, 0), Row.steady(3), 3)
        self.check(Row([7], 1, 0), Row.steady(3), 3)
        self.check(Row([5], 1, 0), Row.steady(3), 2)
        self.check(Row([0], 1, 0), Row.steady(3), 1)

    def test_nowhere(self):
        self.check(Row.steady(1), Row.steady(1), None)
        self.check(Row.steady(2), Row.steady(1), None)
        self.check(Row([1, 1], 2, 2), Row([0, 1, 1], 3, 3), None)
        self.check(Row([0, 4, 3, 5], 3, 2), Row([0, 4, 3, 5], 3, 2), None)
        self.check(Row([0, 0], 1, 1), Row([0, 0], 1, 0), None)

    def test_equal_gains(self):
        self.check(Row([5, 3], 2, 4), Row([5, 4], 2, 4), 1)
        self.check(Row([5, 4], 2, 4), Row([5, 3], 2, 4), None)
        self.check(Row([0, 1, 2], 3, 3), Row([0, 2], 2, 2), 1)

    def test_negative_values(self):
        self.check(Row([-5], 1, -1), Row([-6], 1, -1), None)
        self.check(Row([-5], 1, -2), Row([-6], 1, -1), 2)


class Limit(DuesCase):
    def calls(self, row, other):
        return [
            (lambda: row + other), (lambda: row.minus(other)), (lambda: first_below(row, other)),
            (lambda: row.covers(other)),
        ]

    def test_the_constant(self):
        self.assertEqual(PERIOD_LIMIT, 5000)

    def test_at_the_limit(self):
        for one, two in ((5000, 1), (1, 5000), (8, 625), (625, 40), (5000, 5000)):
            row, other = lagging_row(one), lagging_row(two)
            for call in self.calls(row, other):
                call()
            self.assertEqual((row + other)(4999), 2)

    def test_above_the_limit(self):
        for one, two in ((5001, 1), (1, 5001), (3, 1667), (143, 35), (5001, 5001), (5000, 3), (4999, 4998)):
            row, other = lagging_row(one), lagging_row(two)
            for call in self.calls(row, other) + self.calls(other, row):
                self.assert_error(TooLong, (math.lcm(one, two),), call)

    def test_even_if_the_answer_stands_at_the_beginning(self):
        self.assert_error(TooLong, (5001,), first_below, Row([-9] + [0] * 5000 + [1], 5001, 0), Row.steady(1))
        self.assert_error(TooLong, (5001,), lagging_row(5001).minus, lagging_row(5001))

    def test_the_least_periods_count(self):
        row = Row([0, 1] * 3000, 6000, 0)
        self.assertEqual((row + lagging_row(2500)).period, 2500)

    def test_operations_without_the_limit(self):
        row = lagging_row(5001)
        self.assertTrue(row == lagging_row(5001))
        self.assertTrue((1, 5000) in row)
        self.assertEqual(row.lowest_ahead(), Row.steady(0))


class LowestAhead(DuesCase):
    def test_many_rows(self):
        chance = random.Random(58)
        for _ in range(400):
            row = some_row(chance)
            if row.gain < 0:
                self.assert_error(Falling, (row.gain,), row.lowest_ahead)
            else:
                values = values_of(row, 150)
                told = row.lowest_ahead()
                self.assertEqual(values_of(told, 100), [min(values[index:]) for index in range(100)])
                self.assertEqual(told(10 ** 6), min(row(10 ** 6 + more) for more in range(50)))

    def test_known_rows(self):
        self.assertEqual(Row([0, 4, 3, 5, 6, 5, 7, 8], 6, 4).lowest_ahead().head, [0, 3, 3, 5])
        self.assertEqual(Row.steady(3).lowest_ahead(), Row.steady(3))
        self.assertEqual(Row.step(5, 9).lowest_ahead(), Row.step(5, 9))
        self.assertEqual(Row.step(-5, 9).lowest_ahead(), Row([-5], 1, 0))
        self.assertEqual(Row([9, 8, 7], 1, 0).lowest_ahead(), Row([7], 1, 0))

    def test_the_least_value_in_the_next_period(self):
        # Behind the 9 the least value is 5 + 1, one period after the 5.
        row = Row([5, 9], 2, 1)
        self.assertEqual(values_of(row.lowest_ahead(), 6), [5, 6, 6, 7, 7, 8])

    def test_falling(self):
        for gain in (-1, -2, -HUGE):
            self.assert_error(Falling, (gain,), Row([3], 1, gain).lowest_ahead)
        self.assert_error(Falling, (-1,), Row([0, -1], 2, -2).lowest_ahead)
        self.assertEqual(Row([3, 4], 2, 0).lowest_ahead(), Row([3], 1, 0))


if __name__ == "__main__":
    unittest.main()
