"""Points 24 to 26: schedules that go by a key, and the check of a schedule with the lateness of each job."""

import random
import unittest

from helper import BAD_SPEEDS, HUGE, KEYS, DuesCase, play, single_run, some_run
from walkdues.errors import EmptySlice, OutOfRange, Overlap, TooEarly, UnknownJob, WrongAmount
from walkdues.runs import Run
from walkdues.schedules import earliest_deadline, job_lateness, run_by, worst_lateness
from walkdues.tasks import Task

SPEEDS = (1, 2, 3, 7, 98, 99)


def small_run(chance, speed):
    grain = chance.choice([1, 1, 2, 3]) if speed < 10 else 1
    return some_run(chance, most_jobs=4, grain=grain, most_kinds=3)


class RunBy(DuesCase):
    def test_a_play_unit_by_unit(self):
        chance = random.Random(25)
        for number in range(240):
            speed = chance.choice([1, 1, 2, 3, 7])
            run = small_run(chance, speed)
            for name, key in KEYS.items():
                with self.subTest(f"{number} {name}"):
                    self.assertEqual(run_by(run, key, speed=speed), play(run, key, speed))

    def test_great_speeds(self):
        chance = random.Random(26)
        for speed in (98, 99):
            for _ in range(10):
                run = some_run(chance, most_tasks=3, most_jobs=3, most_gap=3)
                for key in KEYS.values():
                    self.assertEqual(run_by(run, key, speed=speed), play(run, key, speed))

    def test_without_speed(self):
        run = single_run((0, 3, 9), (1, 2, 4))
        for key in (KEYS["due"], KEYS["release"]):
            self.assertEqual(run_by(run, key), run_by(run, key, speed=1))
        self.assertEqual(run_by(run, KEYS["due"]), [(0, 1, 0), (1, 3, 1), (3, 5, 0)])
        self.assertEqual(run_by(run, KEYS["release"]), [(0, 3, 0), (3, 5, 1)])

    def test_the_least_index_of_equal_keys(self):
        run = single_run((0, 2, 9), (0, 3, 9), (1, 1, 8), (2, 1, 7))
        self.assertEqual(run_by(run, KEYS["the same"]), [(0, 2, 0), (2, 5, 1), (5, 6, 2), (6, 7, 3)])
        self.assertEqual(run_by(run, KEYS["due"]), [(0, 2, 0), (2, 5, 1), (5, 6, 2), (6, 7, 3)])

    def test_a_job_is_interrupted_and_goes_on(self):
        run = single_run((0, 5, 99), (1, 1, 9), (2, 1, 9), (4, 2, 9))
        told = [(0, 1, 0), (1, 2, 1), (2, 3, 2), (3, 4, 0), (4, 6, 3), (6, 9, 0)]
        self.assertEqual(earliest_deadline(run), told)

    def test_touching_slices_of_one_job_are_one(self):
        run = single_run((0, 4, 5), (1, 1, 9), (2, 1, 9), (2, 1, 8))
        self.assertEqual(earliest_deadline(run), [(0, 4, 0), (4, 5, 1), (5, 6, 3), (6, 7, 2)])

    def test_idle_time(self):
        run = single_run((3, 2, 9), (9, 1, 9), (10, 1, 9))
        self.assertEqual(earliest_deadline(run), [(3, 5, 0), (9, 10, 1), (10, 11, 2)])
        self.assertEqual(earliest_deadline(run, speed=5), [(15, 17, 0), (45, 46, 1), (50, 51, 2)])

    def test_order_and_no_empty_slice(self):
        chance = random.Random(27)
        for _ in range(60):
            run = some_run(chance, most_jobs=30)
            for speed in SPEEDS:
                slices = earliest_deadline(run, speed=speed)
                self.assertIs(type(slices), list)
                for start, end, _ in slices:
                    self.assertLess(start, end)
                for before, after in zip(slices, slices[1:]):
                    self.assertIs(type(after), tuple)
                    self.assertLessEqual(before[1], after[0])
                    self.assertFalse(before[1] == after[0] and before[2] == after[2])

    def test_very_large_moments(self):
        run = single_run((0, 2, 9), (HUGE, 3, 9), (HUGE + 1, 1, 1))
        begin = 99 * HUGE
        self.assertEqual(earliest_deadline(run, speed=99), [
            (0, 2, 0), (begin, begin + 3, 1), (begin + 99, begin + 100, 2)
        ])
        self.assertEqual(earliest_deadline(run), [
            (0, 2, 0), (HUGE, HUGE + 1, 1), (HUGE + 1, HUGE + 2, 2), (HUGE + 2, HUGE + 4, 1)
        ])

    def test_no_jobs(self):
        self.assertEqual(run_by(Run([], []), KEYS["due"]), [])
        self.assertEqual(earliest_deadline(Run([Task.single("s", 1, 1)], [[]]), speed=99), [])

    def test_four_hundred_jobs(self):
        task = Task("t", [("a", 9, 24)], [("a", "a", 1)])
        run = Run([task], [[("a", place, 9) for place in range(400)]])
        self.assertEqual(earliest_deadline(run), [(9 * place, 9 * place + 9, place) for place in range(400)])

    def test_calls_of_the_key(self):
        chance = random.Random(28)
        for speed in SPEEDS:
            run = some_run(chance)
            called = []
            run_by(run, lambda job: called.append(job) or 0, speed=speed)
            self.assertEqual(called, run.jobs)
            self.assertEqual({type(job) for job in called} or {tuple}, {tuple})

    def test_bad_speeds_before_the_key(self):
        run = single_run((0, 3, 9))
        called = []
        for speed in BAD_SPEEDS:
            self.assert_error(OutOfRange, ("speed", speed), run_by, run, called.append, speed=speed)
            self.assert_error(OutOfRange, ("speed", speed), earliest_deadline, run, speed=speed)
            self.assert_error(OutOfRange, ("speed", speed), earliest_deadline, Run([], []), speed=speed)
        self.assertEqual(called, [])

    def test_earliest_deadline_goes_by_the_due_moment(self):
        chance = random.Random(29)
        for _ in range(100):
            run = some_run(chance, grain=chance.choice([1, 5, 60]))
            for speed in SPEEDS:
                self.assertEqual(earliest_deadline(run, speed=speed), run_by(run, KEYS["due"], speed=speed))
            self.assertEqual(earliest_deadline(run), run_by(run, KEYS["due"]))

    def test_speed_is_passed_by_keyword(self):
        run = single_run((0, 3, 9))
        for call in (lambda: run_by(run, KEYS["due"], 1), lambda: earliest_deadline(run, 1)):
            self.assertRaises(TypeError, call)


def latenesses(run, schedule, speed):
    """The lateness of each job, for a schedule that is right."""
    ends = [max(end for _, end, index in schedule if index == at) for at in range(len(run.jobs))]
    return [end - job[5] * speed for end, job in zip(ends, run.jobs)]


class Lateness(DuesCase):
    def test_many_schedules(self):
        chance = random.Random(30)
        for _ in range(100):
            run = some_run(chance, grain=chance.choice([1, 2, 60]))
            for key in KEYS.values():
                for speed in (1, 2, 99):
                    schedule = run_by(run, key, speed=speed)
                    wanted = latenesses(run, schedule, speed)
                    self.assertEqual(job_lateness(run, schedule, speed=speed), wanted)
                    self.assertEqual(worst_lateness(run, schedule, speed=speed), max(wanted, default=None))

    def test_without_speed(self):
        run = single_run((0, 3, 9), (1, 2, 4))
        schedule = [(0, 1, 0), (1, 3, 1), (7, 9, 0)]
        self.assertEqual(job_lateness(run, schedule), [0, -2])
        self.assertEqual(worst_lateness(run, schedule), 0)
        self.assertEqual(job_lateness(run, schedule, speed=1), [0, -2])

    def test_late_jobs_and_slices_that_touch(self):
        run = single_run((0, 3, 2), (0, 2, 1))
        self.assertEqual(job_lateness(run, [(0, 1, 0), (1, 2, 0), (2, 3, 0), (3, 5, 1)]), [1, 4])
        self.assertEqual(worst_lateness(run, [(0, 2, 1), (2, 3, 0), (3, 5, 0)]), 3)
        self.assertEqual(job_lateness(run, [(9, 10, 1), (12, 15, 0), (20, 21, 1)]), [13, 20])

    def test_with_a_speed(self):
        run = single_run((1, 3, 2), (1, 2, 3))
        self.assertEqual(job_lateness(run, [(4, 6, 1), (6, 9, 0)], speed=4), [-3, -10])

    def test_very_large_moments(self):
        run = single_run((HUGE, 3, 2))
        self.assertEqual(job_lateness(run, [(HUGE, HUGE + 1, 0), (3 * HUGE, 3 * HUGE + 2, 0)]), [2 * HUGE])

    def test_no_jobs(self):
        for run in (Run([], []), Run([Task.single("s", 1, 1)], [[]])):
            self.assertEqual(job_lateness(run, []), [])
            self.assertIsNone(worst_lateness(run, []))
            self.assertIsNone(worst_lateness(run, [], speed=99))

    def test_a_new_list(self):
        run = single_run((0, 1, 1))
        told = job_lateness(run, [(0, 1, 0)])
        told.append(9)
        self.assertEqual(job_lateness(run, [(0, 1, 0)]), [0])


# Two jobs: index 0 is released at 2 and costs 3, index 1 is released at 4 and costs 2.
TWO = single_run((2, 3, 9), (4, 2, 9))
RIGHT = [(2, 4, 0), (4, 5, 0), (5, 7, 1)]


class Checks(DuesCase):
    def refuse(self, wanted, value, schedule, speed=1, run=TWO):
        kept = list(schedule)
        for check in (job_lateness, worst_lateness):
            self.assert_error(wanted, (value,), check, run, schedule, speed=speed)
        self.assertEqual(schedule, kept)

    def test_what_is_right(self):
        schedule = list(RIGHT)
        self.assertEqual(job_lateness(TWO, schedule), [-6, -6])
        self.assertEqual(schedule, RIGHT)

    def test_unknown_job(self):
        for index in (2, 3, -1, -2, HUGE, -HUGE):
            for place in range(4):
                self.refuse(UnknownJob, place, RIGHT[:place] + [(8, 9, index)] + RIGHT[place:])
        self.refuse(UnknownJob, 0, [(0, 1, 0)], run=Run([], []))
        self.refuse(UnknownJob, 0, [(0, 1, -1)], run=Run([], []))

    def test_empty_slice(self):
        for start, end in ((7, 7), (7, 6), (9, 9), (7, -7)):
            self.refuse(EmptySlice, 3, RIGHT + [(start, end, 1)])
        self.refuse(EmptySlice, 0, [(2, 2, 0)] + RIGHT)
        self.refuse(EmptySlice, 1, RIGHT[:1] + [(4, 4, 0)] + RIGHT[1:])

    def test_overlap(self):
        self.refuse(Overlap, 1, [(2, 4, 0), (3, 4, 0), (5, 7, 1)])
        self.refuse(Overlap, 2, [(2, 4, 0), (4, 5, 0), (4, 6, 1)])
        self.refuse(Overlap, 1, [(5, 7, 1), (2, 5, 0)])
        self.refuse(Overlap, 1, [(4, 6, 1), (4, 6, 1)])
        # A slice that begins just at the end of the one before is right.
        self.assertEqual(job_lateness(TWO, [(4, 6, 1), (6, 9, 0)]), [-2, -7])

    def test_only_the_slice_before_counts(self):
        # The third slice is behind the second, but would overlap the first one, which is told at the second.
        self.refuse(Overlap, 1, [(10, 13, 0), (4, 5, 1), (5, 6, 1)])

    def test_too_early(self):
        self.refuse(TooEarly, 0, [(1, 4, 0), (5, 7, 1)])
        self.refuse(TooEarly, 1, [(2, 3, 0), (3, 5, 1), (5, 7, 0)])
        self.refuse(TooEarly, 0, [(-1, 2, 0)])
        for speed in (2, 99):
            self.refuse(TooEarly, 0, [(2 * speed - 1, 2 * speed + 2, 0), (600, 602, 1)], speed)
            self.refuse(TooEarly, 1, [(2 * speed, 2 * speed + 1, 0), (4 * speed - 1, 4 * speed + 1, 1)], speed)
            right = [(2 * speed, 2 * speed + 3, 0), (4 * speed, 4 * speed + 2, 1)]
            self.assertEqual(job_lateness(TWO, right, speed=speed)[1], 2 - 9 * speed)

    def test_wrong_amount(self):
        self.refuse(WrongAmount, 0, [])
        self.refuse(WrongAmount, 0, [(4, 6, 1)])
        self.refuse(WrongAmount, 1, [(2, 5, 0)])
        self.refuse(WrongAmount, 0, [(2, 4, 0), (5, 7, 1)])
        self.refuse(WrongAmount, 0, [(2, 4, 0), (5, 7, 1), (8, 10, 0)])
        self.refuse(WrongAmount, 1, RIGHT + [(7, 8, 1)])
        self.refuse(WrongAmount, 1, RIGHT[:2] + [(5, 6, 1)])
        self.refuse(WrongAmount, 0, [(2, 6, 0), (6, 9, 1)])

    def test_order_within_a_slice(self):
        # Each of these has all the faults that stand behind its own.
        self.refuse(UnknownJob, 1, [(2, 5, 0), (1, 1, 2)])
        self.refuse(UnknownJob, 1, [(2, 5, 0), (1, 1, -1)])
        self.refuse(EmptySlice, 1, [(2, 5, 0), (1, 1, 1)])
        self.refuse(Overlap, 1, [(2, 5, 0), (1, 2, 1)])
        self.refuse(TooEarly, 1, [(2, 3, 0), (3, 4, 1)])

    def test_order_between_slices_and_amounts(self):
        faults = {
            UnknownJob: (90, 91, 9), EmptySlice: (90, 90, 0), Overlap: (1, 5, 0), TooEarly: (0, 1, 0),
        }
        for first, bad in faults.items():
            place = 1 if first is Overlap else 0
            for other in faults.values():
                schedule = [(2, 3, 0)] * place + [bad, other]
                with self.subTest(f"{schedule}"):
                    self.refuse(first, place, schedule)
        # The first two slices are too long, which is told behind the fault of the third.
        three = single_run((2, 3, 9), (4, 2, 9), (30, 1, 9))
        self.refuse(TooEarly, 2, [(2, 9, 0), (9, 19, 1), (19, 20, 2)], run=three)
        self.refuse(WrongAmount, 0, [(2, 3, 0), (4, 5, 1)])

    def test_speed_ahead_of_all(self):
        for speed in BAD_SPEEDS:
            for schedule in (RIGHT, [(1, 1, 9)], []):
                for check in (job_lateness, worst_lateness):
                    self.assert_error(OutOfRange, ("speed", speed), check, TWO, schedule, speed=speed)
                    self.assert_error(OutOfRange, ("speed", speed), check, Run([], []), schedule, speed=speed)
        for speed in (1, 2, 98, 99):
            self.assertEqual(len(job_lateness(TWO, earliest_deadline(TWO, speed=speed), speed=speed)), 2)


if __name__ == "__main__":
    unittest.main()
