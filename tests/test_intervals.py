"""Points 31 to 33: the demand of intervals of a run, and the heaviest interval."""

import inspect
import random
import unittest

from helper import DuesCase, single_run, some_run
from walkdues.errors import OutOfRange
from walkdues.intervals import heaviest_interval, interval_demands
from walkdues.runs import Run
from walkdues.schedules import earliest_deadline, run_by, worst_lateness
from walkdues.tasks import Task

HUGE = 10 ** 40


def demand_of(run, begin, end):
    return sum(job[4] for job in run.jobs if job[3] >= begin and job[5] <= end)


def all_demands(run):
    """The tuples as the document says it: from every release to every due moment."""
    begins = {job[3] for job in run.jobs}
    ends = {job[5] for job in run.jobs}
    told = [(begin, end, demand_of(run, begin, end)) for begin in begins for end in ends]
    return sorted(interval for interval in told if interval[2] > 0)


def heaviest_of(run, speed):
    excesses = [(demand - (end - begin) * speed, begin, end) for begin, end, demand in all_demands(run)]
    return min(excesses, key=lambda told: (-told[0], told[1], told[2]), default=None)


class Demands(DuesCase):
    def test_many_runs(self):
        chance = random.Random(31)
        for _ in range(150):
            run = some_run(chance, most_tasks=4, grain=chance.choice([1, 2, 60]))
            self.assertEqual(list(interval_demands(run)), all_demands(run))

    def test_each_pair_once(self):
        run = single_run((0, 3, 4), (0, 2, 4), (1, 1, 3), (1, 1, 3), (0, 5, 9))
        self.assertEqual(list(interval_demands(run)), [(0, 4, 7), (0, 9, 12), (1, 4, 2), (1, 9, 2)])

    def test_pairs_without_demand(self):
        # The job that is released last is due last, so no job lies between its release and the first due moment.
        run = single_run((0, 1, 2), (5, 1, 3), (6, 1, 90))
        self.assertEqual(list(interval_demands(run)), [
            (0, 2, 1), (0, 8, 2), (0, 96, 3), (5, 8, 1), (5, 96, 2), (6, 96, 1)
        ])

    def test_a_pair_without_demand_between_others(self):
        # From 1 to 9 there is time, but the one job that is released at 1 or later is due at 51.
        run = single_run((0, 1, 9), (1, 2, 50))
        self.assertEqual(list(interval_demands(run)), [(0, 9, 1), (0, 51, 3), (1, 51, 2)])

    def test_equal_ends_of_a_job(self):
        run = single_run((4, 2, 1))
        self.assertEqual(list(interval_demands(run)), [(4, 5, 2)])

    def test_dues_that_are_no_releases(self):
        task = Task("t", [("x", 5, 24), ("y", 7, 1)], [("x", "y", 3)])
        run = Run([task], [[("x", 0, 5), ("y", 3, 7)]])
        self.assertEqual(list(interval_demands(run)), [(0, 4, 7), (0, 24, 12), (3, 4, 7), (3, 24, 7)])

    def test_no_jobs(self):
        self.assertEqual(list(interval_demands(Run([], []))), [])
        self.assertEqual(list(interval_demands(Run([Task.single("s", 1, 1)], [[]]))), [])

    def test_very_large_moments(self):
        run = single_run((HUGE, 3, 2), (2 * HUGE, 1, 1))
        self.assertEqual(list(interval_demands(run)), [
            (HUGE, HUGE + 2, 3), (HUGE, 2 * HUGE + 1, 4), (2 * HUGE, 2 * HUGE + 1, 1)
        ])

    def test_a_generator(self):
        self.assertTrue(inspect.isgeneratorfunction(interval_demands))
        told = interval_demands(single_run((0, 3, 4), (1, 2, 4)))
        self.assertTrue(inspect.isgenerator(told))
        self.assertEqual([next(told), next(told), next(told), next(told, None)], [
            (0, 4, 3), (0, 5, 5), (1, 5, 2), None
        ])
        self.assertEqual({type(interval) for interval in interval_demands(single_run((0, 3, 4)))}, {tuple})


class Heaviest(DuesCase):
    def test_many_runs(self):
        chance = random.Random(32)
        for _ in range(150):
            run = some_run(chance, grain=chance.choice([1, 2, 60]))
            for speed in (1, 2, 5, 99):
                self.assertEqual(heaviest_interval(run, speed=speed), heaviest_of(run, speed))

    def test_without_speed(self):
        run = single_run((0, 3, 4), (1, 2, 4))
        self.assertEqual(heaviest_interval(run), (0, 0, 5))
        self.assertEqual(heaviest_interval(run, speed=1), (0, 0, 5))
        self.assertEqual(heaviest_interval(run, speed=2), (-5, 0, 4))
        self.assertIs(type(heaviest_interval(run)), tuple)
        self.assertRaises(TypeError, lambda: heaviest_interval(run, 1))

    def test_the_least_begin_of_equal_excesses(self):
        self.assertEqual(heaviest_interval(single_run((20, 3, 4), (0, 2, 3), (90, 4, 5))), (-1, 0, 3))
        self.assertEqual(heaviest_interval(single_run((20, 3, 4), (0, 2, 9), (90, 4, 5))), (-1, 20, 24))

    def test_the_least_end_of_equal_excesses(self):
        # From 0 to 5 and from 0 to 7: 3 - 5 and 5 - 7.
        self.assertEqual(heaviest_interval(single_run((0, 3, 5), (0, 2, 7))), (-2, 0, 5))

    def test_begin_before_end(self):
        # From 0 to 9 and from 1 to 8 the excess is the same: 9 - 9 and 7 - 7.
        self.assertEqual(heaviest_interval(single_run((0, 2, 9), (1, 7, 7))), (0, 0, 9))

    def test_a_negative_excess(self):
        self.assertEqual(heaviest_interval(single_run((0, 1, 99))), (-98, 0, 99))
        self.assertEqual(heaviest_interval(single_run((0, 1, 99)), speed=99), (1 - 99 * 99, 0, 99))

    def test_no_jobs(self):
        for run in (Run([], []), Run([Task.single("s", 1, 1)], [[]])):
            self.assertIsNone(heaviest_interval(run))
            self.assertIsNone(heaviest_interval(run, speed=99))

    def test_speed(self):
        for speed in (0, -1, 100, -HUGE, HUGE):
            for run in (single_run((0, 3, 4)), Run([], [])):
                self.assert_error(OutOfRange, ("speed", speed), heaviest_interval, run, speed=speed)
        self.assertEqual(heaviest_interval(single_run((0, 3, 4)), speed=99), (3 - 396, 0, 4))

    def test_four_hundred_jobs(self):
        task = Task("t", [("a", 9, 24)], [("a", "a", 1)])
        run = Run([task], [[("a", place, 9) for place in range(400)]])
        self.assertEqual(heaviest_interval(run), (3600 - 423, 0, 423))


class TheFact(DuesCase):
    def test_the_worst_lateness_is_the_heaviest_excess(self):
        chance = random.Random(33)
        for _ in range(300):
            run = some_run(chance, grain=chance.choice([1, 2, 60]))
            for speed in (1, 2, 3, 99):
                worst = worst_lateness(run, earliest_deadline(run, speed=speed), speed=speed)
                heaviest = heaviest_interval(run, speed=speed)
                self.assertEqual(worst, heaviest[0] if heaviest else None)

    def test_no_schedule_is_better(self):
        chance = random.Random(34)
        for _ in range(150):
            run = some_run(chance)
            if run.jobs:
                least = heaviest_interval(run)[0]
                places = {job[:2]: chance.random() for job in run.jobs}
                schedule = run_by(run, lambda job: round(9 * places[job[:2]]))
                self.assertGreaterEqual(worst_lateness(run, schedule), least)


if __name__ == "__main__":
    unittest.main()
