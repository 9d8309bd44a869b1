"""Points 67 and 68: the service of a calendar, its worst begin, and schedules in open ticks."""

import itertools
import random
import unittest

from helper import BAD_SPEEDS, HUGE, KEYS, DuesCase, play, single_run, some_calendar, some_run
from walkdues.errors import BadCalendar, OutOfRange
from walkdues.rows import Row
from walkdues.runs import Run
from walkdues.schedules import job_lateness, run_by
from walkdues.service import calendar_row, calendar_slices, worst_begin
from walkdues.tasks import Task

BAD_CALENDARS = (
    "", "0", "00", "0" * 24, "1" * 25, "0" * 24 + "1", "01" * 13, "2", "12", "21", "1 ", " 1", "1\n", "01x", "x01",
    "0x1", "1-1", "l", "O1", "1" * 23 + "2", "1,0",
)


def open_ticks(calendar, begin, ticks):
    """The number of open ticks among so many, one by one."""
    return sum(calendar[(begin + tick) % len(calendar)] == "1" for tick in range(ticks))


def counts(calendar, ticks):
    """The open ticks for each begin; whole turns are counted at once."""
    turns, rest = divmod(ticks, len(calendar))
    return [turns * calendar.count("1") + open_ticks(calendar, begin, rest) for begin in range(len(calendar))]


def short_calendars():
    for length in range(1, 8):
        for marks in itertools.product("01", repeat=length):
            if "1" in marks:
                yield "".join(marks)


class CalendarRow(DuesCase):
    def check(self, calendar, speed):
        row = calendar_row(calendar, speed=speed)
        self.assertIs(type(row), Row)
        for ticks in range(3 * len(calendar) + 3):
            begins = range(len(calendar))
            least = min(open_ticks(calendar, begin, ticks) for begin in begins)
            self.assertEqual(row(ticks), speed * least)
        for ticks in (HUGE, HUGE + 1, 7 * HUGE + 11, 24 * HUGE - 1):
            self.assertEqual(row(ticks), speed * min(counts(calendar, ticks)))

    def test_all_lengths(self):
        chance = random.Random(67)
        for length in range(1, 25):
            for _ in range(4):
                self.check(some_calendar(chance, length), chance.randint(1, 99))
            self.check("1" * length, 3)
            self.check("0" * (length - 1) + "1", 99)
            self.check("1" + "0" * (length - 1), 1)

    def test_all_short_calendars(self):
        for calendar in short_calendars():
            self.check(calendar, 2)

    def test_all_speeds(self):
        for speed in range(1, 100):
            self.check("0110100", speed)
            self.assertEqual(calendar_row("1", speed=speed), Row.steady(speed))

    def test_without_speed(self):
        chance = random.Random(68)
        for length in range(1, 25):
            calendar = some_calendar(chance, length)
            self.assertEqual(calendar_row(calendar), calendar_row(calendar, speed=1))
            self.assertEqual(calendar_row(calendar)(length), calendar.count("1"))

    def test_known_rows(self):
        row = calendar_row("1100")
        self.assertEqual([row(ticks) for ticks in range(10)], [0, 0, 0, 1, 2, 2, 2, 3, 4, 4])
        self.assertEqual([row.start, row.period, row.gain], [0, 4, 2])
        self.assertEqual(calendar_row("1010"), calendar_row("01"))
        self.assertEqual(calendar_row("0" * 23 + "1", speed=99), Row([0] * 24, 24, 99))

    def test_a_service_never_falls(self):
        chance = random.Random(69)
        for _ in range(100):
            calendar = some_calendar(chance)
            row = calendar_row(calendar, speed=5)
            told = [row(ticks) for ticks in range(80)]
            self.assertEqual([told[0], told], [0, sorted(told)])


class WorstBegin(DuesCase):
    def check(self, calendar, ticks):
        told = counts(calendar, ticks)
        self.assertEqual(worst_begin(calendar, ticks), min(range(len(calendar)), key=lambda begin: told[begin]))

    def test_all_lengths(self):
        chance = random.Random(70)
        for length in range(1, 25):
            for _ in range(6):
                calendar = some_calendar(chance, length)
                for ticks in list(range(3 * length + 2)) + [HUGE, HUGE + 5, 3 * HUGE - 1]:
                    self.check(calendar, ticks)

    def test_all_short_calendars(self):
        for calendar in short_calendars():
            for ticks in range(2 * len(calendar) + 1):
                self.check(calendar, ticks)

    def test_no_ticks_and_whole_rounds(self):
        for calendar in ("1", "01", "0111", "1" * 24, "0" * 23 + "1"):
            for rounds in (0, 1, 2, HUGE):
                self.assertEqual(worst_begin(calendar, rounds * len(calendar)), 0)

    def test_the_least_of_several(self):
        # With one tick, each closed one is as bad; with two, no pair here is closed.
        self.assertEqual([worst_begin("1010", ticks) for ticks in range(5)], [0, 1, 0, 1, 0])
        self.assertEqual(worst_begin("110011001100", 2), 2)
        self.assertEqual(worst_begin("110011001100", 2 + 12 * HUGE), 2)
        self.assertEqual(worst_begin("100110", 2), 1)
        # The worst ticks go on behind the end of the calendar.
        self.assertEqual(worst_begin("011110", 2), 5)

    def test_it_is_a_worst_one_for_the_service(self):
        chance = random.Random(71)
        for _ in range(100):
            calendar = some_calendar(chance)
            ticks = chance.choice([chance.randint(0, 99), HUGE + chance.randint(0, 99)])
            told = counts(calendar, ticks)
            self.assertEqual(told[worst_begin(calendar, ticks)], calendar_row(calendar)(ticks))


class BadCalendars(DuesCase):
    def refuse(self, wanted, value, calendar, speed=1, begin=0):
        """The functions of a calendar raise this; calendar_slices does so before it calls the key."""
        run = single_run((0, 3, 9))
        called = []
        if wanted is BadCalendar:
            self.assert_error(wanted, value, worst_begin, calendar, 3)
        if begin == 0:
            self.assert_error(wanted, value, calendar_row, calendar, speed=speed)
        for released in (run, Run([], [])):
            self.assert_error(
                wanted, value, calendar_slices, released, calendar, called.append, begin=begin, speed=speed
            )
        self.assertEqual(called, [])

    def test_bad_calendars(self):
        for calendar in BAD_CALENDARS:
            self.refuse(BadCalendar, (calendar,), calendar)
            self.assert_error(BadCalendar, (calendar,), calendar_row, calendar)
            self.assert_error(BadCalendar, (calendar,), worst_begin, calendar, 0)
            self.assert_error(BadCalendar, (calendar,), worst_begin, calendar, HUGE)

    def test_another_character_at_any_place(self):
        for length in (1, 2, 7, 24):
            for place in range(length):
                for mark in "2 -x":
                    calendar = "1" * place + mark + "1" * (length - place - 1)
                    self.refuse(BadCalendar, (calendar,), calendar)

    def test_calendar_ahead_of_speed_and_begin(self):
        for calendar in BAD_CALENDARS:
            for speed in BAD_SPEEDS:
                self.refuse(BadCalendar, (calendar,), calendar, speed=speed)
                self.refuse(BadCalendar, (calendar,), calendar, speed=speed, begin=-1)
            self.refuse(BadCalendar, (calendar,), calendar, begin=-1)

    def test_speed_ahead_of_begin(self):
        for speed in BAD_SPEEDS:
            self.refuse(OutOfRange, ("speed", speed), "01", speed=speed)
            self.refuse(OutOfRange, ("speed", speed), "01", speed=speed, begin=-1)

    def test_begin(self):
        for begin in (-1, -2, -24, -HUGE):
            self.refuse(OutOfRange, ("begin", begin), "01", begin=begin)
            self.refuse(OutOfRange, ("begin", begin), "1", begin=begin, speed=99)

    def test_the_longest_and_the_shortest(self):
        self.assertEqual(calendar_row("1" * 24), Row.steady(1))
        self.assertEqual(calendar_row("1"), Row.steady(1))
        self.assertEqual(worst_begin("1" * 24, 5), 0)
        run = single_run((0, 3, 9))
        self.assertEqual(calendar_slices(run, "1" * 24, KEYS["due"]), [(0, 3, 0)])

    def test_by_keyword(self):
        run = single_run((0, 3, 9))
        for call in (
            lambda: calendar_row("1", 1), lambda: calendar_slices(run, "1", KEYS["due"], 0),
            lambda: calendar_slices(run, "1", KEYS["due"], 0, 1),
        ):
            self.assertRaises(TypeError, call)


class Slices(DuesCase):
    def test_a_play_unit_by_unit(self):
        chance = random.Random(72)
        for number in range(150):
            speed = chance.choice([1, 1, 2, 3, 7])
            run = some_run(chance, most_jobs=4, grain=chance.choice([1, 1, 2, 3]), most_kinds=3)
            calendar = some_calendar(chance, chance.choice([1, 2, 3, 4, 5, 8, 24]))
            begin = chance.randint(0, 2 * len(calendar))
            for name, key in KEYS.items():
                with self.subTest(f"{number} {name} {calendar}"):
                    self.assertEqual(
                        calendar_slices(run, calendar, key, begin=begin, speed=speed),
                        play(run, key, speed, calendar, begin),
                    )

    def test_each_begin(self):
        chance = random.Random(73)
        for length in (1, 2, 5, 7, 24):
            calendar = some_calendar(chance, length)
            run = some_run(chance, most_jobs=4, grain=2, most_kinds=3)
            for begin in range(2 * length):
                wanted = play(run, KEYS["due"], 2, calendar, begin)
                self.assertEqual(calendar_slices(run, calendar, KEYS["due"], begin=begin, speed=2), wanted)
                far = begin + length * HUGE
                self.assertEqual(calendar_slices(run, calendar, KEYS["due"], begin=far, speed=2), wanted)

    def test_great_speeds(self):
        chance = random.Random(74)
        for speed in (98, 99):
            for _ in range(5):
                run = some_run(chance, most_tasks=2, most_jobs=3, most_gap=3)
                calendar = some_calendar(chance, 6)
                for key in KEYS.values():
                    wanted = play(run, key, speed, calendar, 4)
                    self.assertEqual(calendar_slices(run, calendar, key, begin=4, speed=speed), wanted)

    def test_begin_and_speed_left_out(self):
        chance = random.Random(75)
        for _ in range(40):
            run = some_run(chance)
            calendar = some_calendar(chance)
            wanted = calendar_slices(run, calendar, KEYS["due"], begin=0, speed=1)
            self.assertEqual(calendar_slices(run, calendar, KEYS["due"]), wanted)
            self.assertEqual(calendar_slices(run, calendar, KEYS["due"], speed=1), wanted)
            self.assertEqual(calendar_slices(run, calendar, KEYS["due"], begin=0), wanted)

    def test_one_open_tick_is_run_by(self):
        chance = random.Random(76)
        for _ in range(60):
            run = some_run(chance, grain=chance.choice([1, 2, 60]))
            for speed in (1, 2, 99):
                for calendar, begin in (("1", 0), ("1", 5), ("111", 2), ("1" * 24, HUGE)):
                    for key in KEYS.values():
                        self.assertEqual(
                            calendar_slices(run, calendar, key, begin=begin, speed=speed),
                            run_by(run, key, speed=speed),
                        )

    def test_a_slice_ends_where_a_tick_closes(self):
        run = single_run((0, 5, 99))
        self.assertEqual(calendar_slices(run, "110", KEYS["due"]), [(0, 2, 0), (3, 5, 0), (6, 7, 0)])
        self.assertEqual(calendar_slices(run, "110", KEYS["due"], begin=1), [(0, 1, 0), (2, 4, 0), (5, 7, 0)])
        self.assertEqual(calendar_slices(run, "110", KEYS["due"], begin=2), [(1, 3, 0), (4, 6, 0)] + [(7, 8, 0)])
        self.assertEqual(calendar_slices(run, "110", KEYS["due"], speed=2), [(0, 4, 0), (6, 7, 0)])

    def test_slices_that_touch_are_one(self):
        # The calendar is open over its end, and a release that changes nothing makes no new slice.
        run = single_run((0, 4, 9), (1, 1, 99))
        self.assertEqual(calendar_slices(run, "1001", KEYS["due"]), [(0, 1, 0), (3, 5, 0), (7, 8, 0), (8, 9, 1)])
        self.assertEqual(calendar_slices(run, "1001", KEYS["due"], begin=3), [(0, 2, 0), (4, 6, 0), (8, 9, 1)])

    def test_release_in_a_closed_tick(self):
        run = single_run((0, 2, 99), (2, 1, 9), (2, 1, 8), (3, 1, 1))
        self.assertEqual(calendar_slices(run, "1000", KEYS["due"]), [(0, 1, 0), (4, 5, 3), (8, 9, 2), (12, 13, 1)] + [
            (16, 17, 0)
        ])

    def test_release_within_a_tick(self):
        task = Task.single("s", 2, 9)
        run = Run([task, task], [[("job", 1, 4)], [("job", 5, 3)]], grain=3)
        # A tick has six units; the second tick is closed, and it is released in it.
        self.assertEqual(calendar_slices(run, "10", KEYS["due"], speed=2), [(2, 6, 0), (12, 15, 1)])
        self.assertEqual(calendar_slices(run, "01", KEYS["due"], speed=2), [(6, 10, 0), (10, 12, 1), (18, 19, 1)])

    def test_very_large_moments(self):
        run = single_run((0, 2, 9), (6 * HUGE, 3, 9), (6 * HUGE + 1, 1, 1))
        far = 6 * HUGE
        self.assertEqual(calendar_slices(run, "011", KEYS["due"]), [
            (1, 3, 0), (far + 1, far + 2, 2), (far + 2, far + 3, 1), (far + 4, far + 6, 1)
        ])

    def test_four_hundred_jobs_and_few_open_ticks(self):
        run = Run([Task.single("s", 99, 1)] * 400, [[("job", 0, 99)]] * 400)
        told = calendar_slices(run, "0" * 23 + "1", KEYS["due"])
        self.assertEqual(len(told), 400 * 99)
        self.assertEqual(told[-1], (24 * 400 * 99 - 1, 24 * 400 * 99, 399))
        told = calendar_slices(run, "01" * 12, KEYS["due"])
        self.assertEqual([len(told), told[0], told[-1]], [400 * 99, (1, 2, 0), (2 * 39599 + 1, 2 * 39600, 399)])

    def test_no_jobs(self):
        self.assertEqual(calendar_slices(Run([], []), "01", KEYS["due"]), [])
        self.assertEqual(calendar_slices(Run([Task.single("s", 1, 1)], [[]]), "01", KEYS["due"], begin=HUGE), [])

    def test_calls_of_the_key(self):
        chance = random.Random(77)
        for speed in (1, 2, 99):
            run = some_run(chance)
            called = []
            calendar_slices(run, "0110", lambda job: called.append(job) or 0, begin=3, speed=speed)
            self.assertEqual(called, run.jobs)

    def test_each_is_a_schedule(self):
        chance = random.Random(78)
        for _ in range(60):
            run = some_run(chance, grain=chance.choice([1, 7]))
            told = calendar_slices(run, some_calendar(chance), KEYS["due"], begin=chance.randint(0, 99), speed=3)
            self.assertIs(type(told), list)
            self.assertEqual(len(job_lateness(run, told, speed=3)), len(run.jobs))


if __name__ == "__main__":
    unittest.main()
