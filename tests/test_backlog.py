"""Points 103 to 108: requests, work that is left unfinished, and responses."""

import random
import unittest
from fractions import Fraction

from helper import (
    BAD_SPEEDS, HUGE, KEYS, DuesCase, light_tasks, loops, ring, single_run, some_calendar, some_run, some_task,
    some_tasks, some_walk,
)
from walkdues.backlog import (
    first_come, greatest_backlog, greatest_response, piling_run, request_row, unfinished,
)
from walkdues.cycles import common_period, utilization
from walkdues.errors import EmptySlice, OutOfRange, Overlap, Overloaded, TooEarly, TooLong, UnknownJob, WrongAmount
from walkdues.rows import Row
from walkdues.runs import Run
from walkdues.schedules import earliest_deadline, run_by
from walkdues.service import calendar_slices
from walkdues.tasks import Task

PUMP = Task("pump", [("a", 2, 3), ("b", 1, 2)], [("a", "b", 2), ("b", "a", 4)])
SINGLE = Task.single("s", 2, 5)
# One unit is released in each tick.
FULL = Task("full", [("a", 1, 1)], [("a", "a", 1)])


def walked(task, kind, ticks):
    """The greatest sum of the costs in a walk that begins with this kind and has so many ticks left, by all walks."""
    behind = [walked(task, second, ticks - gap) for second, gap in task.followers(kind) if gap <= ticks]
    return task.cost_of(kind) + max(behind, default=0)


def requests(task, ticks):
    """The requests of a task at 0, 1, .., ticks, step by step."""
    tables = {name: [] for name, _, _ in task.kinds}
    for at in range(ticks + 1):
        for name, cost, _ in task.kinds:
            behind = [tables[second][at - gap] for second, gap in task.followers(name) if gap <= at]
            tables[name].append(cost + max(behind, default=0))
    return [max(values) for values in zip(*tables.values())]


def all_requests(tasks, ticks):
    parts = [requests(task, ticks) for task in tasks]
    return [sum(values) for values in zip(*parts)] if parts else [0] * (ticks + 1)


def idle_schedule(chance, run, speed):
    """A schedule with idle time, with some jobs late and in parts."""
    slices = []
    now = 0
    for index, job in enumerate(run.jobs):
        left = job[4]
        now = max(now, job[3] * speed)
        while left > 0:
            now += chance.choice([0, 1, 7])
            part = chance.randint(1, left)
            slices.append((now, now + part, index))
            now += part
            left -= part
    return slices


def left_at(run, schedule, moment, speed):
    """What is released at the moment or earlier, minus the work before it, unit by unit."""
    released = sum(cost for _, _, _, release, cost, _ in run.jobs if release * speed <= moment)
    return released - sum(max(0, min(end, moment) - start) for start, end, _ in schedule)


class RequestRow(DuesCase):
    def test_all_walks(self):
        chance = random.Random(103)
        for _ in range(60):
            task = some_task(chance, most_kinds=3, most_gap=chance.choice([4, 12]))
            if common_period([task]) > 5000:
                continue
            row = request_row([task])
            for ticks in range(10):
                self.assertEqual(row(ticks), max(walked(task, name, ticks) for name, _, _ in task.kinds))

    def test_many_lists(self):
        chance = random.Random(104)
        for _ in range(100):
            tasks = chance.choice([some_tasks, light_tasks])(chance)
            row = request_row(tasks)
            self.assertIs(type(row), Row)
            self.assertEqual([row(at) for at in range(600)], all_requests(tasks, 599))
            self.assertEqual(Fraction(row.gain, row.period), Fraction(*utilization(tasks)))
            self.assertEqual(common_period(tasks) % row.period, 0)

    def test_far_out(self):
        row = request_row([PUMP, loops(7), SINGLE])
        near = all_requests([PUMP, loops(7), SINGLE], 100)
        for at in range(100):
            self.assertEqual(row(at + 42 * HUGE), near[at] + (21 + 6) * HUGE)
        slow = Task("slow", [("a", 9, 1), ("b", 5, 24)], [("a", "a", 11), ("b", "b", 6)])
        row = request_row([slow])
        self.assertEqual([row(at) for at in range(2000)], all_requests([slow], 1999))

    def test_known_rows(self):
        self.assertEqual([request_row([PUMP])(at) for at in (0, 1, 2, 5, 6, 8)], [2, 2, 3, 3, 5, 6])
        self.assertEqual(request_row([SINGLE]), Row([2], 1, 0))
        self.assertEqual(request_row([SINGLE, Task("t", [("a", 3, 99), ("b", 70, 1)])]), Row([72], 1, 0))
        self.assertEqual(request_row([FULL]), Row([1], 1, 1))
        self.assertEqual(request_row([loops(4)] * 3), Row([3, 3, 3, 3], 4, 3))

    def test_no_tasks(self):
        self.assertEqual(request_row([]), Row.steady(0))

    def test_the_deadlines_change_nothing(self):
        chance = random.Random(105)
        for _ in range(30):
            task = some_task(chance, most_gap=4)
            if common_period([task]) <= 5000:
                later = Task("t", [(name, cost, 24) for name, cost, _ in task.kinds], task.arrows)
                self.assertEqual(request_row([task]), request_row([later]))

    def test_too_long(self):
        for tasks in ([loops(7, 8, 9, 11)], [SINGLE, loops(7), loops(8), loops(9), loops(11)]):
            self.assert_error(TooLong, (5544,), request_row, tasks)
        tasks = [loops(5), loops(7), loops(11), ring(7, 6)]
        self.assert_error(TooLong, (5005,), request_row, tasks)
        tasks = [ring(12, 12, 12, 1), ring(10, 10, 7), loops(5)]
        self.assertEqual([request_row(tasks).period, request_row(tasks)(0)], [4995, 3])


class PilingRun(DuesCase):
    def check(self, tasks, ticks):
        run = piling_run(tasks, ticks)
        self.assertEqual([type(run), run.grain], [Run, 1])
        total = 0
        for task, _, kind, release, cost, due in run.jobs:
            self.assertLessEqual(release, ticks)
            self.assertEqual(cost, tasks[task].cost_of(kind))
            self.assertEqual(due, release + tasks[task].deadline_of(kind))
            total += cost
        self.assertEqual(total, all_requests(tasks, ticks)[ticks])
        walks = [[] for _ in tasks]
        for task, _, kind, release, cost, _ in run.jobs:
            walks[task].append((kind, release, cost))
        self.assertEqual(Run(tasks, walks).jobs, run.jobs)

    def test_many_lists(self):
        chance = random.Random(106)
        for _ in range(150):
            self.check(some_tasks(chance, most_period=HUGE), chance.choice([0, 1, 2, 5, 12, 30, 58, 59]))

    def test_each_t(self):
        for ticks in range(60):
            self.check([PUMP, SINGLE, loops(3, 4), PUMP, FULL], ticks)

    def test_no_tasks(self):
        for ticks in (0, 59):
            self.assertEqual(piling_run([], ticks).jobs, [])

    def test_the_ends_of_the_range(self):
        self.assertEqual(piling_run([PUMP], 0).jobs, [(0, 0, "a", 0, 2, 3)])
        self.assertEqual(len(piling_run([FULL], 59).jobs), 60)
        self.check([FULL] * 4 + [Task.single("s", 99, 99)] * 116, 59)

    def test_no_limit_of_the_period(self):
        self.check([loops(7, 8, 9, 11)], 40)
        self.check([loops(5), loops(7), loops(11), ring(7, 6)], 59)


class Unfinished(DuesCase):
    def check(self, run, schedule, speed):
        kept = list(schedule)
        told = unfinished(run, schedule, speed=speed)
        moments = sorted({job[3] * speed for job in run.jobs})
        self.assertEqual(told, [(moment, left_at(run, schedule, moment, speed)) for moment in moments])
        self.assertEqual(schedule, kept)
        self.assertTrue(all(type(pair) is tuple for pair in told))
        return told

    def greatest_sums(self, run, speed):
        """The amounts of point 106."""
        releases = sorted({job[3] for job in run.jobs})
        told = []
        for end in releases:
            sums = [
                sum(job[4] for job in run.jobs if begin <= job[3] <= end) - (end - begin) * speed
                for begin in releases if begin <= end
            ]
            told.append((end * speed, max(sums)))
        return told

    def test_schedules_that_never_idle(self):
        chance = random.Random(107)
        for _ in range(80):
            run = some_run(chance, grain=chance.choice([1, 1, 2, 7, 60]))
            for speed in (1, 2, 5, 99):
                wanted = self.greatest_sums(run, speed)
                for key in KEYS.values():
                    self.assertEqual(self.check(run, run_by(run, key, speed=speed), speed), wanted)

    def test_schedules_that_idle(self):
        chance = random.Random(108)
        for _ in range(100):
            run = some_run(chance, grain=chance.choice([1, 3]))
            for speed in (1, 2, 9):
                self.check(run, idle_schedule(chance, run, speed), speed)
                slices = calendar_slices(run, some_calendar(chance, 5), KEYS["due"], begin=2, speed=speed)
                self.check(run, slices, speed)

    def test_equal_releases(self):
        run = single_run((3, 2, 9), (3, 4, 5), (0, 1, 1), (3, 1, 1), (5, 2, 9))
        self.assertEqual(self.check(run, earliest_deadline(run), 1), [(0, 1), (3, 7), (5, 7)])
        self.assertEqual(self.check(run, earliest_deadline(run, speed=4), 4), [(0, 1), (12, 7), (20, 2)])

    def test_a_slice_that_ends_or_goes_on_at_the_moment(self):
        run = single_run((0, 4, 9), (2, 1, 9), (4, 1, 9))
        self.assertEqual(unfinished(run, [(0, 2, 0), (2, 4, 0), (4, 5, 1), (5, 6, 2)]), [(0, 4), (2, 3), (4, 2)])
        self.assertEqual(unfinished(run, [(1, 5, 0), (5, 6, 1), (6, 7, 2)]), [(0, 4), (2, 4), (4, 3)])
        self.assertEqual(unfinished(run, [(4, 5, 1), (5, 9, 0), (20, 21, 2)]), [(0, 4), (2, 5), (4, 6)])

    def test_without_speed(self):
        run = single_run((0, 3, 9), (1, 2, 4))
        self.assertEqual(unfinished(run, first_come(run)), [(0, 3), (1, 4)])

    def test_no_jobs(self):
        for run in (Run([], []), Run([SINGLE], [[]])):
            self.assertEqual(unfinished(run, []), [])
            self.assertEqual(unfinished(run, [], speed=99), [])

    def test_very_large_moments(self):
        run = single_run((0, 2, 9), (HUGE, 3, 9), (HUGE + 1, 1, 1))
        self.assertEqual(self.check(run, earliest_deadline(run), 1), [(0, 2), (HUGE, 3), (HUGE + 1, 3)])

    def test_a_schedule_of_many_slices(self):
        run = Run([Task.single("s", 99, 99)] * 400, [[("job", at, 99)] for at in range(400)])
        schedule = [(at, at + 1, at // 99) for at in range(39600)]
        late = [(start + 400, end + 400, index) for start, end, index in schedule]
        self.assertEqual(unfinished(run, late)[399], (399, 39600))
        self.assertEqual(unfinished(run, schedule)[:2], [(0, 99), (1, 197)])


# Two jobs: index 0 is released at 2 and costs 3, index 1 is released at 4 and costs 2.
TWO = single_run((2, 3, 9), (4, 2, 9))
WRONG = [
    (UnknownJob, 1, [(2, 5, 0), (1, 1, 2)]), (UnknownJob, 0, [(2, 5, -1)]), (EmptySlice, 1, [(2, 5, 0), (1, 1, 1)]),
    (Overlap, 1, [(2, 5, 0), (1, 2, 1)]), (TooEarly, 1, [(2, 3, 0), (3, 4, 1)]), (WrongAmount, 0, []),
    (WrongAmount, 1, [(2, 5, 0)]), (WrongAmount, 0, [(2, 6, 0), (6, 8, 1)]),
]


class Checks(DuesCase):
    def test_the_errors_of_job_lateness(self):
        for wanted, value, schedule in WRONG:
            for call in (unfinished, greatest_response):
                self.assert_error(wanted, (value,), call, TWO, schedule)
                for speed in BAD_SPEEDS:
                    self.assert_error(OutOfRange, ("speed", speed), call, TWO, schedule, speed=speed)
        for call in (unfinished, greatest_response):
            self.assert_error(TooEarly, (0,), call, TWO, [(2, 5, 0), (5, 7, 1)], speed=2)
            self.assert_error(UnknownJob, (0,), call, Run([], []), [(0, 1, 0)])

    def test_speeds(self):
        for speed in BAD_SPEEDS:
            for tasks in ([], [PUMP], [FULL] * 120, [loops(7, 8, 9, 11)]):
                self.assert_error(OutOfRange, ("speed", speed), greatest_backlog, tasks, speed=speed)
            for run in (TWO, Run([], [])):
                self.assert_error(OutOfRange, ("speed", speed), first_come, run, speed=speed)
                for call in (unfinished, greatest_response):
                    self.assert_error(OutOfRange, ("speed", speed), call, run, [], speed=speed)

    def test_by_keyword(self):
        for call in (
            lambda: unfinished(TWO, [], 1), lambda: greatest_backlog([], 1), lambda: first_come(TWO, 1),
            lambda: greatest_response(TWO, [], 1),
        ):
            self.assertRaises(TypeError, call)

    def test_what_is_passed_and_returned(self):
        tasks = [PUMP, SINGLE, PUMP]
        request_row(tasks)
        greatest_backlog(tasks, speed=2)
        piling_run(tasks, 9)
        self.assertEqual(tasks, [PUMP, SINGLE, PUMP])
        schedule = earliest_deadline(TWO)
        told = unfinished(TWO, schedule)
        greatest_response(TWO, schedule)
        self.assertEqual(schedule, earliest_deadline(TWO))
        told.clear()
        first_come(TWO).clear()
        self.assertEqual([len(unfinished(TWO, schedule)), len(first_come(TWO))], [2, 2])


class GreatestBacklog(DuesCase):
    def check(self, tasks, speed):
        if Fraction(*utilization(tasks)) > speed:
            self.assert_error(Overloaded, utilization(tasks), greatest_backlog, tasks, speed=speed)
            return None
        row = request_row(tasks)
        wanted = all_requests(tasks, row.start + 2 * row.period)
        most, at = max((value - speed * at, -at) for at, value in enumerate(wanted))
        self.assertEqual(greatest_backlog(tasks, speed=speed), (most, -at))
        return (most, -at)

    def test_many_lists(self):
        chance = random.Random(109)
        found = []
        for _ in range(150):
            tasks = chance.choice([some_tasks, light_tasks])(chance)
            if tasks:
                for speed in (1, 2, 3, chance.randint(1, 99)):
                    found.append(self.check(tasks, speed))
        self.assertIn(None, found)
        self.assertTrue(any(told is not None and told[1] > 0 for told in found))

    def test_without_speed(self):
        self.assertEqual([greatest_backlog([PUMP]), greatest_backlog([PUMP, PUMP])], [(2, 0), (4, 0)])
        self.assertEqual(greatest_backlog([SINGLE]), (2, 0))

    def test_no_tasks(self):
        self.assertIsNone(greatest_backlog([]))
        self.assertIsNone(greatest_backlog([], speed=99))

    def test_utilization_equal_to_the_speed(self):
        self.assertEqual(self.check([FULL], 1), (1, 0))
        self.assertEqual(self.check([FULL, SINGLE], 1), (3, 0))
        self.assertEqual(self.check([FULL] * 99, 99), (99, 0))
        burst = Task("burst", [("a", 1, 9), ("b", 9, 9), ("c", 2, 9)], [
            ("a", "b", 1), ("b", "b", 9), ("c", "a", 1)
        ])
        self.assertEqual(self.check([burst], 1), (10, 2))

    def test_later_than_at_first(self):
        task = Task("t", [("a", 8, 9), ("b", 9, 9), ("c", 7, 9)], [("a", "b", 1), ("b", "c", 2)])
        self.assertEqual(self.check([task], 1), (21, 3))
        self.assertEqual(self.check([task], 5), (12, 1))
        self.assertEqual(self.check([task], 9), (9, 0))

    def test_the_least_of_several(self):
        task = Task("t", [("a", 5, 9), ("b", 2, 9), ("c", 2, 9)], [("a", "b", 2), ("b", "c", 2)])
        self.assertEqual(self.check([task], 1), (5, 0))

    def test_order_of_the_errors(self):
        long = [loops(5), loops(7), loops(11), ring(7, 6)]
        for tasks in (long, long + [FULL] * 3, [SINGLE] + long):
            for speed in (1, 2, 99):
                self.assert_error(TooLong, (5005,), greatest_backlog, tasks, speed=speed)
        self.assert_error(Overloaded, (13, 12), greatest_backlog, [FULL, loops(12)])
        self.assert_error(Overloaded, (100, 1), greatest_backlog, [FULL] * 100, speed=99)
        self.assertEqual(greatest_backlog([FULL] * 98 + [loops(12)], speed=99), (99, 0))

    def test_the_fact(self):
        chance = random.Random(110)
        reached = 0
        for _ in range(80):
            tasks = chance.choice([some_tasks, light_tasks])(chance)
            speed = chance.choice([1, 2, 5])
            if not tasks or Fraction(*utilization(tasks)) > speed:
                continue
            amount, ticks = greatest_backlog(tasks, speed=speed)
            for grain in (1, 2, 7):
                run = Run(tasks, [some_walk(chance, task, 15, grain, grain) for task in tasks], grain=grain)
                for key in (KEYS["due"], KEYS["release"]):
                    told = unfinished(run, run_by(run, key, speed=speed), speed=speed)
                    self.assertLessEqual(max([left for _, left in told], default=0), grain * amount)
            if ticks <= 59:
                reached += 1
                run = piling_run(tasks, ticks)
                for key in KEYS.values():
                    told = unfinished(run, run_by(run, key, speed=speed), speed=speed)
                    self.assertEqual(told[-1][1], amount)
                    self.assertEqual(max(left for _, left in told), amount)
        self.assertGreater(reached, 20)


class Responses(DuesCase):
    def test_first_come(self):
        chance = random.Random(111)
        for _ in range(80):
            run = some_run(chance, grain=chance.choice([1, 2, 60]))
            self.assertEqual(first_come(run), run_by(run, KEYS["release"]))
            for speed in (1, 2, 99):
                told = first_come(run, speed=speed)
                self.assertEqual(told, run_by(run, KEYS["release"], speed=speed))
                # No job is interrupted by another one, and they come in the order of their indexes.
                self.assertEqual([index for _, _, index in told], list(range(len(run.jobs))))

    def test_ties_by_index(self):
        run = single_run((2, 3, 9), (0, 4, 9), (2, 1, 1), (2, 2, 3))
        self.assertEqual(first_come(run), [(0, 4, 0), (4, 7, 1), (7, 8, 2), (8, 10, 3)])

    def test_greatest_response(self):
        chance = random.Random(112)
        for _ in range(80):
            run = some_run(chance, grain=chance.choice([1, 5]))
            for speed in (1, 3, 99):
                for schedule in (earliest_deadline(run, speed=speed), idle_schedule(chance, run, speed)):
                    ends = {index: end for _, end, index in schedule}
                    wanted = [ends[index] - job[3] * speed for index, job in enumerate(run.jobs)]
                    told = greatest_response(run, schedule, speed=speed)
                    self.assertEqual(told, max(wanted, default=None))

    def test_known_responses(self):
        run = single_run((0, 3, 9), (1, 2, 4))
        self.assertEqual(greatest_response(run, first_come(run)), 4)
        self.assertEqual(greatest_response(run, earliest_deadline(run)), 5)
        self.assertEqual(greatest_response(run, [(2, 4, 1), (9, 12, 0)]), 12)
        self.assertEqual(greatest_response(run, [(2, 4, 1), (9, 12, 0)], speed=2), 12)

    def test_no_jobs(self):
        for run in (Run([], []), Run([SINGLE], [[]])):
            self.assertEqual(first_come(run), [])
            self.assertIsNone(greatest_response(run, []))
            self.assertIsNone(greatest_response(run, [], speed=99))

    def test_the_fact(self):
        chance = random.Random(113)
        for _ in range(100):
            run = some_run(chance, grain=chance.choice([1, 2, 7]))
            for speed in (1, 2, 9):
                schedule = first_come(run, speed=speed)
                amounts = [amount for _, amount in unfinished(run, schedule, speed=speed)]
                self.assertEqual(greatest_response(run, schedule, speed=speed), max(amounts, default=None))


if __name__ == "__main__":
    unittest.main()
