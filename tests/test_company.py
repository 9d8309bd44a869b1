"""Points 77 to 83: what fits beside tasks, and how that differs from what fits beside others."""

import math
import random
import unittest

from helper import (
    HUGE, DuesCase, light_tasks, loops, ring, row_of_steps, single_task, some_calendar, some_service, some_tasks,
)
from walkdues.closed import demand_row
from walkdues.company import compare, compare_speeds, fits, fits_job, greatest_cost
from walkdues.cycles import common_period
from walkdues.demand import demand
from walkdues.errors import LateSet, Overloaded, TooLong
from walkdues.rows import Row
from walkdues.service import calendar_row
from walkdues.tasks import Task
from walkdues.verdicts import never_late, slack_row

PUMP = Task("pump", [("a", 2, 3), ("b", 1, 2)], [("a", "b", 2), ("b", "a", 4)])
PLAIN = Task("plain", [("a", 3, 4)], [("a", "a", 6)])
SINGLE = Task.single("s", 2, 5)
LATE = Task.single("late", 3, 2)
# The demand is t at every t.
FULL = Task("full", [("a", 1, 1)], [("a", "a", 1)])
# The kind a is ahead for long, but in the end b asks for more.
SLOW = Task("slow", [("a", 9, 1), ("b", 5, 24)], [("a", "a", 11), ("b", "b", 6)])
FAST = Task("fast", [("a", 9, 1)], [("a", "a", 11)])
SERVICES = {
    "none": None,
    "steady": Row.steady(1),
    "faster": Row.steady(3),
    "calendar": calendar_row("110110", speed=2),
    "uneven": row_of_steps([0, 0, 9, 0, 7, 1, 2, 0, 3], 4),
    "ending": row_of_steps([2, 0, 3, 3, 0], 1),
    "nothing": Row.steady(0),
}


def slack_at(tasks, service, ticks):
    """The slack at any t, as the least of the differences counted from there on."""
    demands = demand_row(tasks)
    reach = max(demands.start, service.start) + math.lcm(demands.period, service.period)
    return min(service(ticks + at) - demands(ticks + at) for at in range(reach))


def some_lists(chance, count=2, most_period=12):
    """Lists of tasks whose common period is small."""
    return [chance.choice([some_tasks, light_tasks])(chance, 2, most_period=most_period) for _ in range(count)]


class Fits(DuesCase):
    def test_both_lists_in_either_order(self):
        chance = random.Random(77)
        found = []
        for _ in range(60):
            tasks, company = some_lists(chance)
            for service in (None, *SERVICES.values(), some_service(chance)):
                wanted = never_late(tasks + company, service=service)
                self.assertIs(fits(tasks, company, service=service), wanted)
                self.assertIs(fits(company, tasks, service=service), wanted)
                found.append(wanted)
        self.assertEqual({True, False}, set(found))

    def test_the_slack_row_tells_it(self):
        chance = random.Random(78)
        found = []
        for _ in range(120):
            tasks, company = some_lists(chance)
            for service in (Row.steady(1), some_service(chance)):
                if never_late(tasks, service=service):
                    wanted = slack_row(tasks, service=service).covers(demand_row(company))
                    self.assertIs(fits(tasks, company, service=service), wanted)
                    found.append(wanted)
        self.assertEqual({True, False}, set(found))

    def test_a_company_of_no_tasks(self):
        for service in SERVICES.values():
            self.assertIs(fits([], [], service=service), True)
            for tasks in ([PUMP], [SINGLE], [LATE], [FULL, FULL]):
                wanted = never_late(tasks, service=service)
                self.assertIs(fits(tasks, [], service=service), wanted)
                self.assertIs(fits([], tasks, service=service), wanted)

    def test_the_same_task_in_both(self):
        self.assertIs(fits([PUMP], [PUMP]), False)
        self.assertIs(fits([PUMP], [PUMP], service=Row.steady(2)), True)
        self.assertIs(fits([SINGLE], [SINGLE]), True)
        self.assertIs(fits([SINGLE, SINGLE], [SINGLE]), False)

    def test_nothing_fits_beside_late_tasks(self):
        for tasks in ([LATE], [FULL, FULL], [FULL, loops(12)]):
            for company in ([], [SINGLE], [PUMP], tasks):
                self.assertIs(fits(tasks, company), False)
                self.assertIs(fits(company, tasks), False)

    def test_two_hundred_and_forty_tasks(self):
        tasks = [Task.single("s", 1 + at % 99, 99 - at % 50) for at in range(116)] + [loops(5, 7), PUMP, SLOW, PLAIN]
        self.assertIs(fits(tasks, tasks, service=Row.steady(999)), True)
        self.assertIs(fits(tasks, tasks), False)


class Jobs(DuesCase):
    def check(self, tasks, cost, deadline, service):
        """fits_job and greatest_cost agree with the list that has one more task, where there is such a task."""
        told = fits_job(tasks, cost, deadline, service=service)
        self.assertIs(told, 1 <= cost <= greatest_cost(tasks, deadline, service=service))
        if cost <= 99 and deadline <= 99:
            self.assertIs(told, never_late(tasks + [Task.single("more", cost, deadline)], service=service))
        return told

    def test_beside_many_lists(self):
        chance = random.Random(79)
        found = []
        for _ in range(50):
            tasks = some_lists(chance, 1)[0]
            for service in (None, *SERVICES.values(), some_service(chance)):
                for _ in range(3):
                    task = single_task(chance, 30)
                    found.append(self.check(tasks, *task.kinds[0][1:], service))
        self.assertEqual({True, False}, set(found))

    def test_the_greatest_cost(self):
        chance = random.Random(80)
        for _ in range(40):
            tasks = some_lists(chance, 1)[0]
            for service in (Row.steady(1), Row.steady(4), some_service(chance)):
                for deadline in (1, 2, 7, 24, 99, 5000, 5001, 10 ** 29 + 7):
                    told = greatest_cost(tasks, deadline, service=service)
                    if never_late(tasks, service=service):
                        self.assertEqual(told, slack_at(tasks, service, deadline))
                        self.assertIs(fits_job(tasks, told + 1, deadline, service=service), False)
                        self.assertIs(fits_job(tasks, told, deadline, service=service), True)
                    else:
                        self.assertEqual(told, 0)
                        self.assertIs(fits_job(tasks, 1, deadline, service=service), False)
                    self.assertIs(fits_job(tasks, max(1, told), deadline, service=service), told > 0)
                    self.assertIs(fits_job(tasks, HUGE, deadline, service=service), told >= HUGE)

    def test_against_the_row_of_one_job(self):
        # Up to this deadline the demand of one more job can be written as a row.
        chance = random.Random(81)
        for _ in range(20):
            tasks = some_lists(chance, 1)[0]
            for deadline in (1, 23, 4999, 5000):
                for cost in (1, 5, deadline // 2 + 1, deadline, 2 * deadline, HUGE):
                    service = chance.choice([Row.steady(1), Row.steady(2), SERVICES["calendar"], SERVICES["ending"]])
                    wanted = service.covers(demand_row(tasks) + Row.step(cost, deadline))
                    self.assertIs(fits_job(tasks, cost, deadline, service=service), wanted)

    def test_without_tasks(self):
        for deadline in (1, 2, 5000, 5001, HUGE):
            self.assertEqual(greatest_cost([], deadline), deadline)
            self.assertEqual(greatest_cost([], deadline, service=Row.steady(99)), 99 * deadline)
            self.assertEqual(greatest_cost([], deadline, service=Row.steady(0)), 0)
            self.assertIs(fits_job([], deadline, deadline), True)
            self.assertIs(fits_job([], deadline + 1, deadline), False)
        self.assertEqual(greatest_cost([], HUGE, service=SERVICES["ending"]), 8)

    def test_known_costs(self):
        told = [greatest_cost([PUMP], deadline) for deadline in (1, 4, 5, 8, 6 * HUGE)]
        self.assertEqual(told, [1, 1, 2, 4, 3 * HUGE])
        self.assertEqual(greatest_cost([FULL], HUGE), 0)
        self.assertEqual(greatest_cost([FULL], HUGE, service=row_of_steps([6, 1], 1)), 5)
        self.assertEqual(greatest_cost([FULL], 3, service=row_of_steps([6, 1], 1)), 5)

    def test_late_and_overloaded_tasks(self):
        for tasks in ([LATE], [FULL, FULL], [FULL, loops(12)], [LATE, FULL, FULL]):
            for deadline in (1, 99, 5000, 5001, 10 ** 29, HUGE):
                self.assertEqual(greatest_cost(tasks, deadline), 0)
                for cost in (1, 2, HUGE):
                    self.assertIs(fits_job(tasks, cost, deadline), False)
        # They are not late for long: the service soon has a head start.
        self.assertEqual(greatest_cost([LATE], 50, service=row_of_steps([0, 1, 90, 1], 1)), 0)

    def test_by_keyword(self):
        for call in (
            lambda: fits([], [], None), lambda: fits_job([], 1, 1, None), lambda: greatest_cost([], 1, None),
            lambda: compare([], [], None),
        ):
            self.assertRaises(TypeError, call)


class Compare(DuesCase):
    def check(self, tasks, others, service):
        """The comparison, with each job and word counted step by step."""
        for number, late in ((1, tasks), (2, others)):
            if not never_late(late, service=service):
                self.assert_error(LateSet, (number,), compare, tasks, others, service=service)
                return "late"
        word, job, other_job = told = compare(tasks, others, service=service)
        self.assertIs(type(told), tuple)
        slacks = [slack_row(listed, service=service) for listed in (tasks, others)]
        reach = max(slack.start for slack in slacks) + math.lcm(slacks[0].period, slacks[1].period)
        # With unlike gains the first difference may stand behind what repeats.
        reach = max([reach] + [found[1] + 1 for found in (job, other_job) if found is not None])
        pairs = [(at, slacks[0](at), slacks[1](at)) for at in range(reach)]
        self.assertEqual(job, next(((first, at) for at, first, second in pairs if first > second), None))
        self.assertEqual(other_job, next(((second, at) for at, first, second in pairs if second > first), None))
        self.assertEqual(word, self.word_for(job, other_job))
        for found, more, less in ((job, tasks, others), (other_job, others, tasks)):
            if found is not None:
                self.assertIs(fits_job(more, *found, service=service), True)
                self.assertIs(fits_job(less, *found, service=service), False)
        other_word = {"more": "less", "less": "more"}.get(word, word)
        self.assertEqual(compare(others, tasks, service=service), (other_word, other_job, job))
        return word

    def word_for(self, job, other_job):
        return {(True, True): "alike", (False, True): "more", (True, False): "less", (False, False): "apart"}[
            job is None, other_job is None
        ]

    def test_many_lists(self):
        chance = random.Random(82)
        found = []
        for _ in range(150):
            tasks, others = some_lists(chance)
            for service in (Row.steady(4), Row.steady(9), calendar_row(some_calendar(chance), speed=60)):
                found.append(self.check(tasks, others, service))
        self.assertEqual(set(found), {"alike", "more", "less", "apart", "late"})

    def test_light_lists(self):
        chance = random.Random(83)
        found = []
        for _ in range(100):
            tasks, others = light_tasks(chance, 2, most_period=12), light_tasks(chance, 2, most_period=12)
            for service in (Row.steady(1), some_service(chance)):
                found.append(self.check(tasks, others, service))
        self.assertEqual(set(found), {"alike", "more", "less", "apart", "late"})

    def test_each_word(self):
        self.assertEqual(compare([PUMP], [PLAIN]), ("alike", None, None))
        self.assertEqual(compare([], []), ("alike", None, None))
        self.assertEqual(compare([], [PUMP]), ("more", (2, 2), None))
        self.assertEqual(compare([PUMP], []), ("less", None, (2, 2)))
        two = [Task.single("s", 1, 1), Task.single("t", 1, 9)]
        self.assertEqual(compare([SINGLE], two), ("apart", (1, 1), (4, 5)))
        self.assertEqual(compare(two, [SINGLE]), ("apart", (4, 5), (1, 1)))

    def test_without_service(self):
        chance = random.Random(84)
        for _ in range(30):
            tasks, others = light_tasks(chance, 1), light_tasks(chance, 1)
            if never_late(tasks) and never_late(others):
                wanted = compare(tasks, others, service=Row.steady(1))
                self.assertEqual(compare(tasks, others), wanted)
                self.assertEqual(compare(tasks, others, service=None), wanted)

    def test_late_sets(self):
        for late in ([LATE], [FULL, FULL], [FULL, loops(12)]):
            for other in ([], [SINGLE], [LATE], [FULL, FULL]):
                self.assert_error(LateSet, (1,), compare, late, other)
            for right in ([], [SINGLE], [PUMP]):
                self.assert_error(LateSet, (2,), compare, right, late)
        self.assert_error(LateSet, (1,), compare, [FULL], [FULL], service=Row.steady(0))
        self.assert_error(LateSet, (2,), compare, [SINGLE], [FULL], service=SERVICES["ending"])

    def test_far_differences(self):
        # Until b has overtaken a, both ask for the same.
        service = Row.steady(9)
        word, job, other_job = compare([FAST], [SLOW], service=service)
        self.assertEqual([word, other_job], ["more", None])
        self.assertGreater(job[1], 100)
        self.check([FAST], [SLOW], service)
        self.check([SLOW, SINGLE], [FAST, SINGLE], service)

    def test_the_order_within_a_list(self):
        chance = random.Random(85)
        for _ in range(30):
            tasks, others = some_lists(chance)
            if never_late(tasks, service=Row.steady(20)) and never_late(others, service=Row.steady(20)):
                wanted = compare(tasks, others, service=Row.steady(20))
                self.assertEqual(compare(tasks[::-1], others[::-1], service=Row.steady(20)), wanted)

    def test_alike_means_that_the_same_fits(self):
        for company in ([SINGLE], [PUMP], [PLAIN], [Task.single("s", 1, 1)], [loops(2)], [FULL]):
            self.assertIs(fits([PUMP], company), fits([PLAIN], company))

    def test_more_means_that_all_fits(self):
        chance = random.Random(86)
        for _ in range(60):
            tasks, others, company = some_lists(chance, 3)
            service = Row.steady(chance.choice([2, 5, 9]))
            if never_late(tasks, service=service) and never_late(others, service=service):
                word = compare(tasks, others, service=service)[0]
                if word in ("more", "alike") and fits(others, company, service=service):
                    self.assertTrue(fits(tasks, company, service=service))


class CompareSpeeds(DuesCase):
    def check(self, tasks, others):
        word, found, other_found = told = compare_speeds(tasks, others)
        self.assertIs(type(told), tuple)
        rows = [demand_row(listed) for listed in (tasks, others)]
        reach = max(row.start for row in rows) + math.lcm(rows[0].period, rows[1].period)
        first, second = demand(tasks, reach), demand(others, reach)
        # The utilizations here differ by enough for a difference to show soon, or the rows never part.
        self.assertEqual(found is None, rows[1] == rows[0] or not self.is_below(rows[0], rows[1], first, second))
        self.assertEqual(other_found is None, rows[1] == rows[0] or not self.is_below(rows[1], rows[0], second, first))
        self.assertEqual(word, {
            (True, True): "alike", (False, True): "lighter", (True, False): "heavier", (False, False): "apart"
        }[found is None, other_found is None])
        self.check_found(found, tasks, others)
        self.check_found(other_found, others, tasks)
        self.assertEqual(compare_speeds(others, tasks)[1:], (other_found, found))
        return word

    def is_below(self, row, other, values, other_values):
        """Whether the one demand is somewhere below the other: soon, or because it grows more slowly."""
        return any(mine < yours for mine, yours in zip(values, other_values)) or (
            row.gain * other.period < other.gain * row.period
        )

    def check_found(self, found, more, less):
        if found is None:
            return
        self.assertIs(type(found), tuple)
        speed, cost, deadline = found
        self.assertGreaterEqual(min(found), 1)
        self.assertIs(fits_job(more, cost, deadline, service=Row.steady(speed)), True)
        self.assertIs(fits_job(less, cost, deadline, service=Row.steady(speed)), False)

    def test_many_lists(self):
        chance = random.Random(87)
        found = []
        for _ in range(200):
            tasks, others = some_lists(chance)
            found.append(self.check(tasks, others))
            self.assertEqual(self.check(tasks, tasks[::-1]), "alike")
        self.assertEqual(set(found), {"alike", "lighter", "heavier", "apart"})

    def test_each_word(self):
        self.assertEqual(self.check([PUMP], [PLAIN]), "heavier")
        self.assertEqual(self.check([PLAIN], [PUMP]), "lighter")
        self.assertEqual(self.check([PUMP], [PUMP]), "alike")
        self.assertEqual(self.check([SINGLE], [Task.single("s", 1, 1), Task.single("t", 1, 9)]), "apart")

    def test_no_tasks(self):
        self.assertEqual(compare_speeds([], []), ("alike", None, None))
        self.assertEqual(self.check([], [PUMP]), "lighter")
        self.assertEqual(self.check([PUMP], []), "heavier")
        self.assertEqual(self.check([], [Task.single("s", 1, 99)]), "lighter")

    def test_rows_that_part_far_out(self):
        self.assertEqual(demand([SLOW], 150), demand([FAST], 150))
        self.assertEqual(self.check([FAST], [SLOW]), "lighter")
        self.assertEqual(self.check([SLOW, SINGLE], [SINGLE, FAST]), "heavier")
        self.assertGreater(compare_speeds([FAST], [SLOW])[1][2], 150)
        # A great head start that is used up by a utilization that is a little greater.
        ahead = [Task.single("s", 99, 1)] * 100 + [loops(12)]
        word, found, other_found = compare_speeds(ahead, [loops(11)])
        self.assertEqual(word, "apart")
        self.assertGreater(found[2], 10 ** 6)
        self.check_found(found, ahead, [loops(11)])
        self.check_found(other_found, [loops(11)], ahead)

    def test_equal_rows_of_unlike_tasks(self):
        more = Task("more", [("x", 2, 3), ("y", 1, 2), ("z", 1, 20)], [("x", "y", 2), ("y", "x", 4)])
        self.assertEqual(compare_speeds([more], [PUMP]), ("alike", None, None))
        self.assertEqual(compare_speeds([Task.single("s", 5, 9)] * 2, [Task.single("t", 10, 9)]), ("alike", None, None))
        for speed in (1, 2, 9):
            self.assertEqual(compare([more], [PUMP], service=Row.steady(speed))[0], "alike")

    def test_lighter_at_each_speed(self):
        chance = random.Random(88)
        for _ in range(60):
            tasks, others, company = some_lists(chance, 3)
            if compare_speeds(tasks, others)[0] in ("lighter", "alike"):
                for speed in range(1, 9):
                    if fits(others, company, service=Row.steady(speed)):
                        self.assertTrue(fits(tasks, company, service=Row.steady(speed)))

    def test_tasks_that_are_overloaded_at_small_speeds(self):
        self.assertEqual(self.check([FULL] * 120, [FULL] * 119), "heavier")
        self.assertEqual(self.check([FULL] * 120, [Task.single("s", 99, 1)]), "heavier")
        self.assertEqual(self.check([FULL] * 98, [Task.single("s", 99, 1)]), "apart")


class Limit(DuesCase):
    def refuse(self, period, tasks, others, service=None):
        self.assert_error(TooLong, (period,), fits, tasks, others, service=service)
        self.assert_error(TooLong, (period,), compare, tasks, others, service=service)
        if service is None:
            self.assert_error(TooLong, (period,), compare_speeds, tasks, others)
        both = tasks + others
        self.assert_error(TooLong, (period,), fits_job, both, 1, 1, service=service)
        self.assert_error(TooLong, (period,), greatest_cost, both, HUGE, service=service)

    def test_both_lists_together(self):
        tasks, others = [loops(5), loops(7)], [loops(11), ring(7, 6)]
        for listed in (tasks, others):
            self.assertLess(common_period(listed), 200)
        self.refuse(5005, tasks, others)
        self.refuse(5005, others, tasks)
        self.refuse(5005, tasks + others, [])
        self.refuse(5005, [], tasks + others)
        self.refuse(5005, tasks, others, Row.steady(9))
        # Ahead of LateSet, and beside overloaded tasks.
        self.refuse(5005, tasks + [LATE], others)
        self.refuse(5005, tasks + [FULL, FULL], others + [FULL, FULL])

    def test_with_the_service(self):
        wide = row_of_steps([5] * 1666 + [6], 1667)
        self.refuse(5001, [loops(3)], [], wide)
        self.refuse(5001, [], [loops(3)], wide)
        self.refuse(5001, [FULL] * 9, [loops(3), LATE], wide)
        self.refuse(5001, [], [], row_of_steps([5] * 5000 + [6], 5001))
        self.refuse(5001, [LATE], [], row_of_steps([0] * 5000 + [6], 5001))

    def test_the_common_period_counts_not_that_of_the_rows(self):
        # In the demand the loop of b is not to be seen, but it is critical, since b leads to no other cycle.
        task = Task("t", [("a", 9, 1), ("b", 1, 1)], [("a", "a", 1), ("b", "b", 11)])
        self.assertEqual([common_period([task]), demand_row([task]).period], [11, 1])
        others = [loops(5), loops(7), ring(7, 6)]
        self.refuse(5005, [task], others)
        self.refuse(5005, others, [task])
        self.refuse(5005, [task, LATE], others)
        self.refuse(5500, [task], [], row_of_steps([20] * 499 + [21], 500))

    def test_at_the_limit(self):
        wide = row_of_steps([5] * 624 + [6], 625)
        self.assertIs(fits([loops(8)], [SINGLE], service=wide), True)
        self.assertIs(fits_job([loops(8)], 4, 1, service=wide), True)
        self.assertEqual(greatest_cost([loops(8)], 1, service=wide), 4)
        self.assertEqual(compare([loops(8)], [], service=wide), ("less", None, (5, 1)))
        self.assertEqual(compare([], [], service=row_of_steps([5] * 4999 + [6], 5000)), ("alike", None, None))
        tasks, others = [ring(12, 12, 12, 1), loops(5)], [ring(10, 10, 7)]
        self.assertEqual(compare_speeds(tasks, others)[0], "heavier")
        self.assertEqual(compare(tasks, others, service=Row.steady(4))[0], "less")

    def test_no_error_of_the_load(self):
        try:
            fits([FULL, FULL], [FULL])
            fits_job([FULL, FULL], 1, 1)
            greatest_cost([FULL, FULL], 1)
        except Overloaded:
            self.fail("what is overloaded is told by False and 0 here")


class WhatIsPassed(DuesCase):
    def test_lists_and_services_stay(self):
        tasks, others = [PUMP, SINGLE], [SINGLE, PLAIN, SINGLE]
        service = Row([0, 9, 14, 20], 3, 15)
        fits(tasks, others, service=service)
        fits_job(tasks, 1, 9, service=service)
        greatest_cost(tasks, 9, service=service)
        compare(tasks, others, service=service)
        compare_speeds(tasks, others)
        self.assertEqual([tasks, others], [[PUMP, SINGLE], [SINGLE, PLAIN, SINGLE]])
        self.assertEqual([service.head, service.period, service.gain], [[0, 9, 14, 20], 3, 15])


if __name__ == "__main__":
    unittest.main()
