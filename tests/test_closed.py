"""Points 61 to 65: closings of tasks, and the rows of their demands."""

import itertools
import random
import unittest
from fractions import Fraction

from helper import DuesCase, lines_run, loops, plain_task, ring, some_task
from walkdues.closed import closing, closing_holds, demand_row, task_row
from walkdues.company import fits, fits_job
from walkdues.cycles import common_period, rate, utilization
from walkdues.demand import demand, kind_demands
from walkdues.errors import TooLong
from walkdues.rows import Row
from walkdues.tasks import Task
from walkdues.verdicts import never_late, slack_row

PUMP = Task("pump", [("a", 2, 3), ("b", 1, 2)], [("a", "b", 2), ("b", "a", 4)])
SINGLE = Task.single("s", 2, 5)
CHAIN = Task("chain", [("a", 2, 9), ("b", 5, 3), ("c", 9, 1)], [("a", "b", 4), ("b", "c", 6)])
# The kind b is soon overtaken in the long run, but a has the greater demand for long.
SLOW = Task("slow", [("a", 9, 1), ("b", 5, 24)], [("a", "a", 11), ("b", "b", 6)])


def is_closing(task, start, period, gains):
    """The conditions as the document says them."""
    names = [name for name, _, _ in task.kinds]
    gap = max([gap for _, _, gap in task.arrows], default=0)
    if period < 1 or start < gap + max(deadline for _, _, deadline in task.kinds):
        return False
    if set(gains) != set(names) or len(gains) != len(names):
        return False
    for name in names:
        if not task.followers(name) and gains[name] != 0:
            return False
    for first, second, _ in task.arrows:
        if gains[second] > gains[first]:
            return False
    table = kind_demands(task, start + period)
    for name in names:
        for moment in range(start - gap, start):
            if table[name][moment + period] != table[name][moment] + gains[name]:
                return False
        for moment in range(start, start + period):
            behind = [(table[second][moment - wait], gains[second]) for second, wait in task.followers(name)]
            if behind and (max(behind)[0], gains[name]) not in behind:
                return False
    return True


class ClosingHolds(DuesCase):
    def check(self, task, start, period, gains):
        wanted = is_closing(task, start, period, gains)
        self.assertIs(closing_holds(task, start, period, gains), wanted)
        return wanted

    def test_the_closing_later_starts_and_multiples(self):
        chance = random.Random(61)
        for _ in range(80):
            task = some_task(chance)
            start, period, gains = closing(task)
            for later in (0, 1, 2, 17):
                for times in (1, 2, 5):
                    more = {name: times * gain for name, gain in gains.items()}
                    self.assertTrue(self.check(task, start + later, times * period, more))

    def test_each_condition_broken(self):
        chance = random.Random(62)
        for _ in range(80):
            task = some_task(chance)
            start, period, gains = closing(task)
            self.assertFalse(self.check(task, start - 1, period, gains))
            self.assertFalse(self.check(task, -start, period, gains))
            self.assertFalse(self.check(task, start, 0, {name: 0 for name in gains}))
            self.assertFalse(self.check(task, start, -period, {name: -gain for name, gain in gains.items()}))
            for name in gains:
                lacking = {key: gain for key, gain in gains.items() if key != name}
                self.assertFalse(self.check(task, start, period, lacking))
                self.assertFalse(self.check(task, start, period, {**lacking, "zz": gains[name]}))
                for other in (gains[name] + 1, gains[name] - 1, -1):
                    self.assertFalse(self.check(task, start, period, {**gains, name: other}))
            self.assertFalse(self.check(task, start, period, {**gains, "zz": 0}))
            self.assertFalse(self.check(task, start, period, {}))

    def test_small_numbers_at_each_place(self):
        chance = random.Random(63)
        found = 0
        for _ in range(60):
            task = some_task(chance, most_kinds=2, most_cost=3, most_deadline=4, most_gap=3)
            names = [name for name, _, _ in task.kinds]
            for start, period in itertools.product((3, 5, 7, 9, 12), range(1, 7)):
                for worth in itertools.product(range(-1, 5), repeat=len(names)):
                    found += self.check(task, start, period, dict(zip(names, worth)))
        self.assertGreater(found, 100)

    def test_keys_in_any_order(self):
        self.assertIs(closing_holds(PUMP, 7, 6, {"b": 3, "a": 3}), True)
        self.assertIs(closing_holds(PUMP, 7, 6, {"a": 3, "b": 3}), True)

    def test_the_least_start_by_gaps_and_deadlines(self):
        # The greatest gap is 4, the greatest deadline 3.
        for start in range(-9, 7):
            self.assertIs(closing_holds(PUMP, start, 6, {"a": 3, "b": 3}), False)
        self.assertFalse(closing_holds(SINGLE, 4, 1, {"job": 0}))
        self.assertTrue(closing_holds(SINGLE, 5, 1, {"job": 0}))

    def test_without_arrows(self):
        task = Task("t", [("a", 2, 3), ("b", 99, 7)])
        for period in (1, 2, 500):
            self.assertTrue(closing_holds(task, 7, period, {"b": 0, "a": 0}))
            self.assertFalse(closing_holds(task, 6, period, {"b": 0, "a": 0}))
            self.assertFalse(closing_holds(task, 7, period, {"b": 0, "a": 1}))
            self.assertFalse(closing_holds(task, 7, period, {"b": -1, "a": 0}))
        self.assertFalse(closing_holds(task, 7, 0, {"b": 0, "a": 0}))
        self.assertFalse(closing_holds(task, 7, -1, {"b": 0, "a": 0}))

    def test_a_gain_that_grows_along_an_arrow(self):
        # Both loops repeat as they are told to, but a leads to b, which gains more.
        task = Task("t", [("a", 2, 1), ("b", 3, 1)], [("a", "a", 1), ("b", "b", 1), ("a", "b", 12)])
        for gains in ({"a": 2, "b": 3}, {"a": 3, "b": 3}):
            for start in (13, 30, 40, 45, 46, 47, 60):
                self.check(task, start, 1, gains)
        self.assertFalse(closing_holds(task, 60, 1, {"a": 2, "b": 3}))
        self.assertTrue(closing_holds(task, 60, 1, {"a": 3, "b": 3}))

    def test_the_best_arrow_must_keep_the_gain(self):
        # Until b with its loop is ahead, x gets more from the loop of a, which has the lesser rate.
        kinds = [("x", 1, 1), ("a", 9, 1), ("b", 8, 1)]
        task = Task("t", kinds, [("x", "a", 1), ("x", "b", 12), ("a", "a", 10), ("b", "b", 8)])
        start, period, gains = closing(task)
        self.assertEqual([period, gains], [40, {"x": 40, "a": 36, "b": 40}])
        for earlier in range(14, start):
            self.assertFalse(self.check(task, earlier, period, gains))
        self.assertTrue(self.check(task, start, period, gains))

    def test_great_integers(self):
        self.assertTrue(closing_holds(PUMP, 20000, 19998, {"a": 9999, "b": 9999}))
        self.assertFalse(closing_holds(PUMP, 20000, 20000, {"a": 10000, "b": 10000}))
        self.assertTrue(closing_holds(PUMP, 7, 19998, {"a": 9999, "b": 9999}))
        self.assertTrue(closing_holds(PUMP, 20000, 6, {"a": 3, "b": 3}))
        self.assertFalse(closing_holds(PUMP, -20000, -20000, {"a": -10000, "b": -10000}))
        self.assertFalse(closing_holds(PUMP, -20000, 6, {"a": 3, "b": 3}))
        self.assertFalse(closing_holds(PUMP, 7, -6, {"a": -3, "b": -3}))

    def test_no_limit_of_the_period(self):
        task = loops(7, 8, 9, 11)
        gains = {"a": 792, "b": 693, "c": 616, "d": 504}
        self.assertTrue(closing_holds(task, 12, 5544, gains))
        self.assertFalse(closing_holds(task, 12, 5544, {**gains, "d": 503}))
        self.assertFalse(closing_holds(task, 12, 5543, gains))

    def test_what_is_passed(self):
        gains = {"b": 3, "a": 3}
        closing_holds(PUMP, 7, 6, gains)
        self.assertEqual(list(gains.items()), [("b", 3), ("a", 3)])


class Closing(DuesCase):
    def test_the_least_start(self):
        chance = random.Random(64)
        for _ in range(100):
            task = some_task(chance, most_cost=chance.choice([2, 9]), most_gap=chance.choice([3, 12]))
            start, period, gains = closing(task)
            self.assertEqual(period, common_period([task]))
            self.assertEqual(list(gains), [name for name, _, _ in task.kinds])
            for name, gain in gains.items():
                self.assertEqual(Fraction(gain, period), Fraction(*rate(task, name)))
            least = next(number for number in range(1, start + 1) if is_closing(task, number, period, gains))
            self.assertEqual(start, least)

    def test_known_closings(self):
        self.assertEqual(closing(PUMP), (7, 6, {"a": 3, "b": 3}))
        self.assertEqual(closing(SINGLE), (5, 1, {"job": 0}))
        self.assertEqual(closing(Task("t", [("b", 2, 3), ("a", 1, 8)])), (8, 1, {"b": 0, "a": 0}))
        told = closing(Task("t", [("b", 2, 3), ("a", 1, 8)]))
        self.assertEqual([type(told), list(told[2])], [tuple, ["b", "a"]])

    def test_without_cycle(self):
        # The demand of a grows for the last time at 11, where c behind b is due.
        start, period, gains = closing(CHAIN)
        self.assertEqual([period, gains], [1, {"a": 0, "b": 0, "c": 0}])
        self.assertEqual(start, next(number for number in range(99) if is_closing(CHAIN, number, period, gains)))

    def test_a_late_start(self):
        kinds = [("a", 4, 24), ("b", 6, 1), ("c", 8, 24), ("d", 5, 24)]
        arrows = [("a", "b", 11), ("b", "a", 6), ("c", "d", 11), ("d", "c", 11), ("b", "c", 12)]
        task = Task("t", kinds, arrows)
        start, period, gains = closing(task)
        self.assertEqual([period, gains], [22, {"a": 13, "b": 13, "c": 13, "d": 13}])
        self.assertGreater(start, 3000)
        self.assertTrue(is_closing(task, start, period, gains))
        self.assertFalse(is_closing(task, start - 1, period, gains))

    def test_a_new_dict(self):
        told = closing(PUMP)[2]
        told["a"] = 99
        self.assertEqual(closing(PUMP)[2], {"a": 3, "b": 3})


class RowCase(DuesCase):
    def check(self, tasks, row, ticks=1500):
        self.assertIs(type(row), Row)
        self.assertEqual([row(moment) for moment in range(ticks + 1)], demand(tasks, ticks))
        self.assertEqual(Fraction(row.gain, row.period), Fraction(*utilization(tasks)))
        self.assertEqual(common_period(tasks) % row.period, 0)


class Rows(RowCase):
    def test_task_rows(self):
        chance = random.Random(65)
        for _ in range(120):
            task = some_task(chance)
            self.check([task], task_row(task))

    def test_demand_rows(self):
        chance = random.Random(66)
        for _ in range(60):
            tasks = [some_task(chance, most_gap=chance.choice([4, 12])) for _ in range(chance.randint(1, 4))]
            tasks += tasks[:chance.randint(0, 1)] + [Task.single("s", 7, chance.randint(1, 99))]
            if common_period(tasks) > 5000:
                self.assert_error(TooLong, (common_period(tasks),), demand_row, tasks)
            else:
                self.check(tasks, demand_row(tasks))

    def test_no_tasks(self):
        self.assertEqual(demand_row([]), Row.steady(0))

    def test_tasks_without_cycles(self):
        self.assertEqual(task_row(SINGLE), Row.step(2, 5))
        self.assertEqual(demand_row([SINGLE, SINGLE, Task.single("q", 9, 99)]).head, [0] * 5 + [4] * 94 + [13])
        self.check([CHAIN], task_row(CHAIN), 100)

    def test_a_kind_that_is_overtaken_late(self):
        row = task_row(SLOW)
        self.check([SLOW], row, 3000)
        self.assertGreater(row.start, 200)
        self.assertEqual([row.period, row.gain], [6, 5])

    def test_kinds_with_nearly_equal_rates(self):
        kinds = [("a", 9, 1), ("b", 4, 1), ("c", 5, 24), ("d", 9, 24)]
        task = Task("t", kinds, [("a", "b", 12), ("b", "a", 10), ("c", "d", 12), ("d", "c", 11)])
        row = task_row(task)
        self.assertEqual([row.period, row.gain], [23, 14])
        self.check([task], row, 3 * row.start + 100)

    def test_the_greatest_list(self):
        tasks = [Task.single("s", 1 + place % 99, 1 + place % 97) for place in range(116)]
        tasks += [PUMP, ring(12, 11, 8, 4), loops(9, 5), CHAIN]
        self.check(tasks, demand_row(tasks), 600)

    def test_far_values(self):
        row = demand_row([PUMP, loops(7)])
        # From 0 on the demand of pump gains 3 in 6 ticks, and that of the loop 1 in 7.
        for moment in (1, 5, 11, 40):
            near = row(moment)
            self.assertEqual(row(moment + 42 * 10 ** 20), near + 27 * 10 ** 20)

    def test_what_is_passed(self):
        tasks = [SINGLE, PUMP, SINGLE]
        demand_row(tasks)
        self.assertEqual(tasks, [SINGLE, PUMP, SINGLE])


class WithoutArrows(RowCase):
    def test_one_task(self):
        chance = random.Random(67)
        for most_cost, most_deadline in ((99, 99), (3, 99), (99, 3), (2, 2)):
            for _ in range(60):
                task = plain_task(chance, most_cost, most_deadline)
                self.check([task], task_row(task), 120)
                self.assertEqual(demand_row([task]), task_row(task))

    def test_lists(self):
        chance = random.Random(68)
        for count in (2, 3, 10, 40, 120):
            for most in (4, 99):
                tasks = [plain_task(chance, most, most) for _ in range(count)]
                self.check(tasks, demand_row(tasks), 120)
                self.check(tasks + tasks[:1], demand_row(tasks + tasks[:1]), 120)

    def test_between_tasks_with_arrows(self):
        chance = random.Random(69)
        for _ in range(20):
            tasks = [plain_task(chance, 20) for _ in range(chance.randint(1, 30))]
            tasks += [PUMP, CHAIN, loops(9, 5), SLOW][:chance.randint(1, 4)]
            chance.shuffle(tasks)
            self.check(tasks, demand_row(tasks), 600)

    def test_kinds_that_add_nothing(self):
        # The job of the task is one of these, so a kind counts only if it costs more than all that are due earlier.
        task = Task("t", [("a", 5, 9), ("b", 7, 4), ("c", 7, 6), ("d", 8, 9)])
        self.assertEqual(task_row(task), Row([0] * 4 + [7] * 5 + [8], 1, 0))
        self.assertEqual(task_row(Task("t", [("a", 9, 2), ("b", 8, 99)])), Row.step(9, 2))
        self.assertEqual(task_row(Task("t", [("a", 3, 2), ("b", 9, 2), ("c", 4, 2)])), Row.step(9, 2))
        self.assertEqual(demand_row([task, task]).head, [0] * 4 + [14] * 5 + [16])

    def test_the_ends_of_the_ranges(self):
        self.assertEqual(task_row(Task.single("s", 1, 1)), Row.step(1, 1))
        self.assertEqual(task_row(Task.single("s", 99, 99)), Row.step(99, 99))
        self.assertEqual(demand_row([Task.single("s", 99, 99)] * 120), Row.step(120 * 99, 99))
        self.assertEqual(demand_row([Task.single("s", 1, 99), Task.single("s", 99, 1)]).head, [0] + [99] * 98 + [100])

    def test_the_limit_beside_tasks_with_arrows(self):
        singles = [Task.single("s", 1, deadline) for deadline in range(1, 100)]
        tasks = [loops(5), loops(7), loops(11), ring(7, 6)]
        for call in (demand_row, never_late, slack_row):
            self.assert_error(TooLong, (5005,), call, singles + tasks)
        self.assertEqual(demand_row(singles + tasks[1:]).period, 1001)

    def test_a_long_list_takes_few_lines(self):
        # Before such tasks were counted together, each of these calls ran more than 200,000 lines.
        tasks = [Task.single(f"t{deadline}", 1, deadline) for deadline in range(1, 100)]
        self.assertLess(lines_run(demand_row, tasks), 10000)
        self.assertLess(lines_run(never_late, tasks), 10000)
        self.assertLess(lines_run(slack_row, tasks), 10000)
        self.assertLess(lines_run(fits, tasks, [Task.single("s", 1, 50)]), 10000)
        self.assertLess(lines_run(fits_job, tasks, 1, 50), 10000)
        # With four tasks that have arrows, most of the work is theirs.
        self.assertLess(lines_run(demand_row, tasks + [PUMP] * 4), 10000 + 4 * lines_run(demand_row, [PUMP]))


class Limit(DuesCase):
    def test_one_task_above_the_limit(self):
        for gaps, period in (((7, 8, 9, 11), 5544), ((7, 9, 10, 11), 6930), ((11, 9, 8, 7), 5544)):
            task = loops(*gaps)
            for call in (closing, task_row):
                self.assert_error(TooLong, (period,), call, task)
            for tasks in ([task], [SINGLE, task], [task, task, PUMP], [task, loops(5), ring(12, 1)]):
                self.assert_error(TooLong, (common_period(tasks),), demand_row, tasks)

    def test_one_task_below_the_limit(self):
        for gaps, period in (((5, 8, 9, 11), 3960), ((5, 7, 9, 11), 3465)):
            task = loops(*gaps)
            self.assertEqual(closing(task)[:2], (12, period))
            self.assertEqual(task_row(task)(1 + 5 * 7 * 9 * 11 * 8), 1 + 7 * 9 * 11 * 8)
            self.assertEqual(demand_row([task]), task_row(task))

    def test_lists_just_above_the_limit(self):
        # 5 * 7 * 11 * 13 is above the limit, 5 * 27 * 37 is not.
        tasks = [loops(5), loops(7), loops(11), ring(7, 6)]
        self.assertEqual(common_period(tasks), 5005)
        self.assert_error(TooLong, (5005,), demand_row, tasks)
        self.assertEqual(demand_row(tasks[1:]).period, 1001)
        tasks = [ring(12, 12, 12, 1), ring(10, 10, 7), loops(5)]
        self.assertEqual(common_period(tasks), 4995)
        self.assertEqual(demand_row(tasks).period, 4995)
        tasks = [ring(10, 10, 5), ring(12, 12, 12, 4), loops(5)]
        self.assertEqual([common_period(tasks), demand_row(tasks).period], [200, 200])

    def test_at_the_limit_with_the_same_tasks_twice(self):
        tasks = [ring(12, 12, 12, 1), ring(10, 10, 7), loops(5)] * 2
        row = demand_row(tasks)
        self.assertEqual([row.period, Fraction(row.gain, row.period)], [4995, Fraction(*utilization(tasks))])


if __name__ == "__main__":
    unittest.main()
