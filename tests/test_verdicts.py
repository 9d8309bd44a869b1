"""Points 69 to 74: whether tasks can be late with a service, how late, and what is left beside them."""

import math
import random
import unittest
from fractions import Fraction

from helper import (
    BAD_SPEEDS, HUGE, KEYS, DuesCase, light_tasks, loops, ring, row_of_steps, some_calendar, some_service, some_task,
    some_tasks, some_walk,
)
from walkdues.closed import demand_row
from walkdues.cycles import common_period, utilization
from walkdues.demand import demand, heavy_run
from walkdues.errors import OutOfRange, Overloaded, TooLong
from walkdues.rows import Row
from walkdues.runs import Run
from walkdues.schedules import earliest_deadline, worst_lateness
from walkdues.service import calendar_row, calendar_slices, worst_begin
from walkdues.tasks import Task
from walkdues.verdicts import first_excess, greatest_lateness, least_speed, never_late, slack_row

PUMP = Task("pump", [("a", 2, 3), ("b", 1, 2)], [("a", "b", 2), ("b", "a", 4)])
SINGLE = Task.single("s", 2, 5)
# The demand is t at every t.
FULL = Task("full", [("a", 1, 1)], [("a", "a", 1)])


def reach(tasks, service):
    """How far the values of the tasks with a service are not yet repeated."""
    return max(demand_row(tasks).start, service.start) + math.lcm(common_period(tasks), service.period)


def searched_excess(tasks, service, ticks):
    """The first excess up to so many ticks, step by step."""
    for at, wanted in enumerate(demand(tasks, ticks)):
        if wanted > service(at):
            return (at, wanted - service(at))
    return None


def is_overloaded(tasks, service):
    return Fraction(*utilization(tasks)) > Fraction(service.gain, service.period)


class FirstExcess(DuesCase):
    def check(self, tasks, service, ticks=500):
        told = first_excess(tasks, service=service)
        self.assertIs(never_late(tasks, service=service), told is None)
        wanted = searched_excess(tasks, service, ticks)
        if wanted is None and told is not None:
            self.assertGreater(told[0], ticks)
            wanted = searched_excess(tasks, service, told[0])
        self.assertEqual(told, wanted)
        if is_overloaded(tasks, service):
            self.assertIsNotNone(told)
        return told

    def test_many_lists(self):
        chance = random.Random(70)
        found = []
        for _ in range(150):
            tasks = some_tasks(chance)
            for service in (Row.steady(3), some_service(chance), some_service(chance)):
                found.append(self.check(tasks, service) is None)
        self.assertEqual({True, False}, set(found))

    def test_light_lists(self):
        chance = random.Random(71)
        found = []
        for _ in range(150):
            tasks = light_tasks(chance)
            for service in (Row.steady(1), calendar_row(some_calendar(chance), speed=2), some_service(chance)):
                found.append(self.check(tasks, service) is None)
        self.assertEqual({True, False}, set(found))

    def test_without_service(self):
        chance = random.Random(72)
        for _ in range(100):
            tasks = light_tasks(chance)
            self.assertEqual(first_excess(tasks), self.check(tasks, Row.steady(1)))
            self.assertEqual(first_excess(tasks, service=None), first_excess(tasks))
            self.assertEqual(never_late(tasks), never_late(tasks, service=Row.steady(1)))
            self.assertEqual(never_late(tasks, service=None), never_late(tasks))

    def test_no_tasks(self):
        chance = random.Random(73)
        for _ in range(30):
            self.assertIsNone(first_excess([], service=some_service(chance)))
        self.assertIsNone(first_excess([]))
        self.assertIs(never_late([], service=Row.steady(0)), True)

    def test_just_enough_and_one_too_much(self):
        self.assertIsNone(first_excess([Task.single("s", 5, 5)]))
        self.assertEqual(first_excess([Task.single("s", 6, 5)]), (5, 1))
        self.assertEqual(first_excess([Task.single("s", 99, 1)], service=Row.steady(98)), (1, 1))
        self.assertEqual(first_excess([Task.single("s", 99, 1)] * 120), (1, 120 * 99 - 1))
        self.assertIsNone(first_excess([FULL]))
        self.assertEqual(first_excess([FULL, SINGLE]), (5, 2))

    def test_in_the_head_of_the_service(self):
        service = row_of_steps([0] * 20 + [50, 1], 1)
        self.assertEqual(first_excess([SINGLE], service=service), (5, 2))
        self.assertIsNone(first_excess([Task.single("s", 50, 21)], service=service))
        self.assertEqual(first_excess([Task.single("s", 50, 20)], service=service), (20, 50))

    def test_a_service_that_stops_to_grow(self):
        service = row_of_steps([7, 0], 1)
        self.assertEqual(service.gain, 0)
        self.assertIsNone(first_excess([Task.single("s", 7, 1)], service=service))
        self.assertEqual(first_excess([Task.single("s", 4, 1)] * 2, service=service), (1, 1))
        # The eighth job of the loop is due at 71.
        self.assertEqual(first_excess([loops(10)], service=service), (71, 1))
        self.assertEqual(first_excess([loops(10)], service=Row.steady(0)), (1, 1))

    def test_far_behind_the_heads(self):
        # A job every 11 ticks, work for one every 12 ticks, and 50 units to begin with.
        service = row_of_steps([50] + [0] * 11 + [1], 12)
        self.assertEqual([service.period, service.gain], [12, 1])
        told = self.check([loops(11)], service, 9000)
        self.assertGreater(told[0], 5000)
        service = row_of_steps([10 ** 9] + [0] * 11 + [1], 12)
        ticks, excess = first_excess([loops(11)], service=service)
        self.assertEqual(excess, 1)
        self.assertEqual((ticks - 1) // 11 + 1 - service(ticks), 1)
        self.assertLessEqual((ticks - 2) // 11 + 1, service(ticks - 1))
        self.assertGreater(ticks, 10 ** 11)

    def test_utilization_below_at_and_above_the_rate(self):
        for gap, wanted in ((11, True), (12, True), (10, False)):
            service = row_of_steps([30] + [0] * 10 + [1] if gap != 12 else [30] + [0] * 11 + [1], 11 + (gap == 12))
            self.assertIs(never_late([loops(gap)], service=service), wanted)
        self.assertIs(never_late([FULL], service=Row.steady(1)), True)
        self.assertIs(never_late([FULL, loops(12)], service=Row.steady(1)), False)
        self.assertIs(never_late([FULL, loops(12)], service=Row.steady(2)), True)

    def test_the_order_of_the_tasks(self):
        chance = random.Random(74)
        for _ in range(40):
            tasks = some_tasks(chance)
            service = some_service(chance)
            self.assertEqual(first_excess(tasks, service=service), first_excess(tasks[::-1], service=service))

    def test_what_is_passed(self):
        tasks = [SINGLE, PUMP, SINGLE]
        service = Row([0, 3, 4, 9], 3, 8)
        for call in (first_excess, never_late, slack_row):
            call(tasks, service=service)
        greatest_lateness(tasks, speed=3)
        least_speed(tasks)
        self.assertEqual(tasks, [SINGLE, PUMP, SINGLE])
        self.assertEqual([service.head, service.period, service.gain], [[0, 3, 4, 9], 3, 8])

    def test_by_keyword(self):
        for call in (first_excess, never_late, slack_row, greatest_lateness):
            self.assertRaises(TypeError, call, [], None)


class TheFact(DuesCase):
    """Point 71: what the verdict says of the schedules of runs."""

    def runs_of(self, chance, tasks):
        for grain in (1, 1, 2, 7, 60):
            walks = []
            for task in tasks:
                walk = some_walk(chance, task, 20, grain, most_wait=grain, begin=chance.randint(0, grain * 9))
                if chance.random() < 0.7:
                    walk = [(kind, release, grain * task.cost_of(kind)) for kind, release, _ in walk]
                walks.append(walk)
            yield Run(tasks, walks, grain=grain)

    def test_never_late_at_a_speed(self):
        chance = random.Random(75)
        judged = 0
        for _ in range(120):
            tasks = light_tasks(chance)
            speed = chance.choice([1, 2, 3])
            if never_late(tasks, service=Row.steady(speed)):
                judged += 1
                for run in self.runs_of(chance, tasks):
                    late = worst_lateness(run, earliest_deadline(run, speed=speed), speed=speed)
                    self.assertLessEqual(late or 0, 0)
        self.assertGreater(judged, 30)

    def test_never_late_with_a_calendar(self):
        chance = random.Random(76)
        judged = 0
        for _ in range(150):
            tasks = light_tasks(chance)
            calendar = some_calendar(chance, chance.randint(2, 9))
            speed = chance.choice([1, 2, 5])
            if never_late(tasks, service=calendar_row(calendar, speed=speed)):
                judged += 1
                for run in self.runs_of(chance, tasks):
                    slices = calendar_slices(run, calendar, KEYS["due"], begin=chance.randint(0, 20), speed=speed)
                    self.assertLessEqual(worst_lateness(run, slices, speed=speed) or 0, 0)
        self.assertGreater(judged, 30)

    def test_the_heavy_run_has_a_late_job(self):
        chance = random.Random(77)
        judged = 0
        for _ in range(150):
            tasks = light_tasks(chance, most_period=20) + some_tasks(chance, 2, most_period=20)
            calendar = some_calendar(chance, chance.randint(1, 9))
            speed = chance.choice([1, 2, 5])
            found = first_excess(tasks, service=calendar_row(calendar, speed=speed))
            if found is not None and found[0] <= 60:
                judged += 1
                ticks, excess = found
                run = heavy_run(tasks, ticks)
                begin = worst_begin(calendar, ticks)
                for key in KEYS.values():
                    slices = calendar_slices(run, calendar, key, begin=begin, speed=speed)
                    self.assertGreater(worst_lateness(run, slices, speed=speed), 0)
                self.assertGreaterEqual(excess, 1)
        self.assertGreater(judged, 30)


class SlackRow(DuesCase):
    def check(self, tasks, service):
        if is_overloaded(tasks, service):
            self.assert_error(Overloaded, utilization(tasks), slack_row, tasks, service=service)
            return False
        told = slack_row(tasks, service=service)
        self.assertIs(type(told), Row)
        ticks = reach(tasks, service)
        wanted = [service(at) - value for at, value in enumerate(demand(tasks, 2 * ticks))]
        for at in range(2 * ticks - 1, -1, -1):
            wanted[at] = min(wanted[at], wanted[at + 1])
        # The tasks are not overloaded, so behind the last value that was counted there are no lesser ones.
        self.assertEqual([told(at) for at in range(ticks + 1)], wanted[:ticks + 1])
        self.assertEqual(told(0) == 0, never_late(tasks, service=service))
        return True

    def test_many_lists(self):
        chance = random.Random(78)
        found = []
        for _ in range(120):
            tasks = chance.choice([some_tasks, light_tasks])(chance)
            for service in (Row.steady(3), some_service(chance)):
                found.append(self.check(tasks, service))
        self.assertEqual({True, False}, set(found))

    def test_without_service(self):
        chance = random.Random(79)
        for _ in range(60):
            tasks = light_tasks(chance, 2)
            if self.check(tasks, Row.steady(1)):
                self.assertEqual(slack_row(tasks), slack_row(tasks, service=Row.steady(1)))
                self.assertEqual(slack_row(tasks, service=None), slack_row(tasks))

    def test_no_tasks(self):
        self.assertEqual(slack_row([]), Row.steady(1))
        chance = random.Random(80)
        for _ in range(30):
            service = some_service(chance)
            self.assertEqual(slack_row([], service=service), service)

    def test_utilization_and_rate_equal(self):
        self.assertEqual(slack_row([FULL]), Row.steady(0))
        self.assertTrue(self.check([loops(1), loops(12)], Row.steady(2)))
        self.assertTrue(self.check([loops(12)], row_of_steps([30] + [0] * 11 + [1], 12)))
        self.assertTrue(self.check([PUMP, PUMP], Row.steady(1)))
        # Without a cycle the utilization is 0, and so is the rate of this service.
        self.assertTrue(self.check([SINGLE], row_of_steps([7, 0], 1)))
        self.assertTrue(self.check([Task.single("s", 9, 3)], row_of_steps([7, 0], 1)))

    def test_overloaded(self):
        task = Task("t", [("a", 4, 9)], [("a", "a", 6)])
        self.assert_error(Overloaded, (2, 3), slack_row, [task], service=row_of_steps([9, 0], 1))
        self.assert_error(Overloaded, (4, 3), slack_row, [task, task])
        self.assert_error(Overloaded, (7, 6), slack_row, [PUMP, task])
        self.assert_error(Overloaded, (13, 12), slack_row, [FULL, loops(12)])
        self.assert_error(Overloaded, (2, 1), slack_row, [FULL, FULL], service=calendar_row("10", speed=3))
        self.assertEqual(slack_row([FULL, FULL], service=calendar_row("10", speed=4))(0), -2)

    def test_the_first_value(self):
        self.assertEqual(slack_row([SINGLE])(0), 0)
        self.assertEqual(slack_row([Task.single("s", 5, 5)])(0), 0)
        self.assertEqual(slack_row([Task.single("s", 6, 5)])(0), -1)
        self.assertEqual(slack_row([Task.single("s", 99, 1)] * 2)(0), -197)

    def test_far_values(self):
        slack = slack_row([PUMP])
        for at in range(12):
            self.assertEqual(slack(at + 6 * HUGE), slack(at) + 3 * HUGE)


class GreatestLateness(DuesCase):
    def check(self, tasks, speed):
        if Fraction(*utilization(tasks)) > speed:
            self.assert_error(Overloaded, utilization(tasks), greatest_lateness, tasks, speed=speed)
            return None
        told = greatest_lateness(tasks, speed=speed)
        ticks = 100 + reach(tasks, Row.steady(speed))
        values = [(value - speed * at, -at) for at, value in enumerate(demand(tasks, ticks)) if value > 0]
        most, at = max(values)
        self.assertEqual(told, (most, -at))
        return told

    def test_many_lists(self):
        chance = random.Random(81)
        for _ in range(150):
            tasks = chance.choice([some_tasks, light_tasks])(chance)
            if tasks:
                for speed in (1, 2, 3, 5, chance.randint(1, 99)):
                    self.check(tasks, speed)

    def test_without_speed(self):
        for tasks in ([PUMP], [SINGLE], [PUMP, SINGLE], [FULL]):
            self.assertEqual(greatest_lateness(tasks), self.check(tasks, 1))

    def test_no_tasks(self):
        self.assertIsNone(greatest_lateness([]))
        self.assertIsNone(greatest_lateness([], speed=99))

    def test_only_where_there_is_demand(self):
        # Without a demand the difference would be 0 at 0.
        self.assertEqual(greatest_lateness([Task.single("s", 2, 50)]), (-48, 50))
        self.assertEqual(greatest_lateness([Task.single("s", 2, 50)], speed=99), (2 - 99 * 50, 50))
        self.assertEqual(greatest_lateness([FULL]), (0, 1))
        self.assertEqual(greatest_lateness([FULL], speed=7), (-6, 1))
        # The demand is 0 over the whole first period of the row.
        late = Task("late", [("a", 9, 12)], [("a", "a", 12)])
        self.assertEqual(greatest_lateness([late]), (-3, 12))

    def test_utilization_equal_to_the_speed(self):
        self.assertEqual(self.check([PUMP, PUMP], 1), (2, 4))
        self.assertEqual(self.check([FULL, SINGLE], 1), (2, 5))
        self.assertEqual(self.check([FULL, FULL, PUMP, PUMP], 3), (2, 4))
        self.assertEqual(self.check([FULL, loops(2), loops(2)], 2), (1, 1))

    def test_the_least_of_several(self):
        tasks = [Task.single("s", 3, 2), Task.single("t", 4, 6)]
        self.assertEqual(greatest_lateness(tasks), (1, 2))

    def test_overloaded(self):
        self.assert_error(Overloaded, (13, 12), greatest_lateness, [FULL, loops(12)])
        self.assert_error(Overloaded, (100, 1), greatest_lateness, [FULL] * 100, speed=99)
        self.assertEqual(greatest_lateness([FULL] * 99, speed=99), (0, 1))

    def test_speed_ahead_of_all(self):
        long = [loops(7, 9, 10, 11)]
        for speed in BAD_SPEEDS:
            for tasks in ([], [FULL] * 120, long, [PUMP]):
                self.assert_error(OutOfRange, ("speed", speed), greatest_lateness, tasks, speed=speed)

    def test_the_fact(self):
        chance = random.Random(82)
        for _ in range(60):
            tasks = chance.choice([some_tasks, light_tasks])(chance)
            speed = chance.choice([1, 2, 5, 9])
            if not tasks or Fraction(*utilization(tasks)) > speed:
                continue
            most, ticks = greatest_lateness(tasks, speed=speed)
            for grain in (1, 3, 60):
                run = Run(tasks, [some_walk(chance, task, 12, grain, grain) for task in tasks], grain=grain)
                late = worst_lateness(run, earliest_deadline(run, speed=speed), speed=speed)
                if late is not None:
                    self.assertLessEqual(late, grain * most)
            if ticks <= 60:
                run = heavy_run(tasks, ticks)
                self.assertEqual(worst_lateness(run, earliest_deadline(run, speed=speed), speed=speed), most)


class LeastSpeed(DuesCase):
    def check(self, tasks):
        told = least_speed(tasks)
        ticks = 100 + reach(tasks, Row.steady(1))
        ratios = [Fraction(value, at) for at, value in enumerate(demand(tasks, ticks)) if at > 0]
        wanted = max([*ratios, Fraction(*utilization(tasks))])
        self.assertEqual(told, (wanted.numerator, wanted.denominator))
        return told

    def test_many_lists(self):
        chance = random.Random(83)
        found = []
        for _ in range(200):
            tasks = chance.choice([some_tasks, light_tasks])(chance)
            found.append(self.check(tasks) == utilization(tasks))
            self.assertEqual(least_speed(tasks[::-1]), least_speed(tasks))
        self.assertEqual({True, False}, set(found))

    def test_no_tasks(self):
        self.assertEqual(least_speed([]), (0, 1))

    def test_the_utilization(self):
        # The demand / t gets near to 1 / 11, but never reaches it.
        late = Task("t", [("a", 1, 24)], [("a", "a", 11)])
        self.assertEqual(self.check([late]), (1, 11))
        self.assertEqual(self.check([Task("t", [("a", 4, 24)], [("a", "a", 8)])]), (1, 2))
        self.assertEqual(self.check([FULL]), (1, 1))

    def test_reached_at_some_t(self):
        self.assertEqual(self.check([PUMP]), (3, 4))
        self.assertEqual(self.check([SINGLE]), (2, 5))
        self.assertEqual(self.check([Task.single("s", 99, 1)]), (99, 1))
        self.assertEqual(self.check([Task.single("s", 6, 4), Task.single("s", 4, 6)]), (5, 3))
        self.assertEqual(self.check([Task.single("s", 4, 99)]), (4, 99))

    def test_whole_speeds(self):
        chance = random.Random(84)
        for _ in range(60):
            tasks = some_tasks(chance)
            cost, length = least_speed(tasks)
            whole = -(-cost // length)
            self.assertTrue(never_late(tasks, service=Row.steady(whole)))
            if whole > 0:
                self.assertFalse(never_late(tasks, service=Row.steady(whole - 1)))


class Limit(DuesCase):
    CALLS = (first_excess, never_late, slack_row)

    def refuse(self, period, tasks, service=None):
        for call in self.CALLS:
            self.assert_error(TooLong, (period,), call, tasks, service=service)
        if service is None:
            self.assert_error(TooLong, (period,), greatest_lateness, tasks)
            self.assert_error(TooLong, (period,), greatest_lateness, tasks, speed=99)
            self.assert_error(TooLong, (period,), least_speed, tasks)

    def test_tasks_alone(self):
        for gaps in ((7, 8, 9, 11), (7, 9, 10, 11)):
            self.refuse(common_period([loops(*gaps)]), [SINGLE, loops(*gaps)])
        tasks = [loops(5), loops(7), loops(11), ring(7, 6)]
        self.refuse(5005, tasks)
        self.refuse(5005, tasks, Row.steady(7))
        self.refuse(10010, tasks, calendar_row("10"))
        # Ahead of Overloaded, too.
        self.refuse(5005, tasks + [FULL, FULL])
        tasks = [ring(12, 12, 12, 1), ring(10, 10, 7), loops(5)]
        self.assertEqual(slack_row(tasks).period, 4995)
        for call in (first_excess, never_late, greatest_lateness, least_speed):
            call(tasks)

    def test_with_the_service(self):
        wide = row_of_steps([5] * 624 + [6], 625)
        self.assertEqual(wide.period, 625)
        self.assertEqual(slack_row([loops(8)], service=wide).period, 5000)
        self.assertTrue(never_late([loops(8)], service=wide))
        self.assertIsNone(first_excess([loops(8), SINGLE], service=wide))
        wide = row_of_steps([5] * 1666 + [6], 1667)
        self.refuse(5001, [loops(3)], wide)
        self.refuse(5001, [loops(3), SINGLE, FULL], wide)
        self.refuse(5001, [loops(3)] + [FULL] * 99, wide)
        self.assertEqual(slack_row([FULL], service=wide).period, 1667)

    def test_the_service_alone(self):
        for tasks in ([], [SINGLE], [FULL] * 20, [loops(5)]):
            long = row_of_steps([5] * 4999 + [6], 5000)
            self.assertEqual(first_excess(tasks, service=long) is None, len(tasks) < 20)
            self.refuse(5001 if len(tasks) != 1 or tasks[0].name != "loops" else 25005, tasks,
                        row_of_steps([5] * 5000 + [6], 5001))

    def test_the_common_period_counts_not_that_of_the_row(self):
        # In the demand the second loop is not to be seen, but its cycle is critical: it cannot be reached otherwise.
        task = Task("t", [("a", 9, 1), ("b", 1, 1)], [("a", "a", 1), ("b", "b", 11)])
        self.assertEqual([common_period([task]), slack_row([task], service=Row.steady(9)).period], [11, 1])
        wide = row_of_steps([9] * 499 + [10], 500)
        self.refuse(5500, [task], wide)

    def test_long_heads_of_services(self):
        service = row_of_steps([0] * 4999 + [5000, 2], 1)
        self.assertEqual(first_excess([loops(7)], service=service), (1, 1))
        self.assertEqual(slack_row([loops(7)], service=service)(0), -((4998 // 7) + 1))
        tasks = [some_task(random.Random(85), f"t{at}") for at in range(4)] + [SINGLE] * 116
        self.assertEqual(first_excess(tasks, service=service), searched_excess(tasks, service, 100))


if __name__ == "__main__":
    unittest.main()
