"""Points 85 to 89: how far one number of one task may go, and the successions of two tasks."""

import random
import unittest

from helper import (
    DuesCase, light_tasks, loops, ring, row_of_steps, single_task, some_service, some_task, some_tasks, some_walk,
)
from walkdues.cycles import common_period
from walkdues.errors import (
    GapTooShort, NoArrow, OutOfRange, Repeated, TooLong, UnknownArrow, UnknownKind, WrongCount,
)
from walkdues.limits import greatest_cost_of, least_deadline_of, least_gap_of, least_switch, succession
from walkdues.rows import Row
from walkdues.runs import Run
from walkdues.tasks import Task
from walkdues.verdicts import never_late

PUMP = Task("pump", [("a", 2, 3), ("b", 1, 2)], [("a", "b", 2), ("b", "a", 4)])
DRAIN = Task("drain", [("c", 3, 3)], [("c", "c", 5)])
SINGLE = Task.single("s", 2, 5)
# The demand is t at every t.
FULL = Task("full", [("a", 1, 1)], [("a", "a", 1)])
# The common period of these three is 693, which leaves room for a factor up to 7.
WIDE = [loops(7), loops(9), loops(11)]


def with_cost(task, kind, cost):
    kinds = [(name, cost if name == kind else old, deadline) for name, old, deadline in task.kinds]
    return Task(task.name, kinds, task.arrows)


def with_deadline(task, kind, deadline):
    kinds = [(name, cost, deadline if name == kind else old) for name, cost, old in task.kinds]
    return Task(task.name, kinds, task.arrows)


def with_gap(task, first, second, gap):
    arrows = [(one, two, gap if (one, two) == (first, second) else old) for one, two, old in task.arrows]
    return Task(task.name, task.kinds, arrows)


def changed_lists(tasks, index, changed):
    """The lists with each of these tasks at this index."""
    return [tasks[:index] + [task] + tasks[index + 1:] for task in changed]


def first_never_late(lists, service):
    """The number of the first list that is never late, None if there is none; or the TooLong that stops the search."""
    for number, listed in enumerate(lists, start=1):
        try:
            if never_late(listed, service=service):
                return number
        except TooLong as error:
            return error
    return None


def last_never_late(lists, service):
    """The number of the list before the first one that can be late; or the TooLong that stops the search."""
    for number, listed in enumerate(lists, start=1):
        try:
            if not never_late(listed, service=service):
                return number - 1 if number > 1 else None
        except TooLong as error:
            return error
    return len(lists)


class LimitsCase(DuesCase):
    def meets(self, wanted, call, *args, **more):
        """The call returns what is wanted, or raises it if it is an error."""
        if isinstance(wanted, TooLong):
            self.assert_error(TooLong, (wanted.period,), call, *args, **more)
        else:
            self.assertEqual(call(*args, **more), wanted)

    def check_kind(self, tasks, index, kind, service):
        task = tasks[index]
        most_cost, most_deadline = (9, 24) if task.arrows else (99, 99)
        lists = changed_lists(tasks, index, [with_cost(task, kind, cost) for cost in range(1, most_cost + 1)])
        cost = last_never_late(lists, service)
        self.meets(cost, greatest_cost_of, tasks, index, kind, service=service)
        changed = [with_deadline(task, kind, deadline) for deadline in range(1, most_deadline + 1)]
        deadline = first_never_late(changed_lists(tasks, index, changed), service)
        self.meets(deadline, least_deadline_of, tasks, index, kind, service=service)
        return [cost, deadline]

    def check_gap(self, tasks, index, first, second, service):
        changed = [with_gap(tasks[index], first, second, gap) for gap in range(1, 13)]
        wanted = first_never_late(changed_lists(tasks, index, changed), service)
        self.meets(wanted, least_gap_of, tasks, index, first, second, service=service)
        return wanted

    def check_switch(self, first, second, rest, service):
        changed = [succession(first, second, gap) for gap in range(1, 13)]
        wanted = first_never_late([rest + [task] for task in changed], service)
        self.meets(wanted, least_switch, first, second, rest, service=service)
        return wanted


class Kinds(LimitsCase):
    def test_tasks_with_arrows(self):
        chance = random.Random(85)
        costs, deadlines = [], []
        for _ in range(30):
            tasks = light_tasks(chance, 2) + [some_task(chance, most_gap=6)]
            index = chance.randrange(len(tasks))
            kind = chance.choice(tasks[index].kinds)[0]
            for service in (None, Row.steady(chance.choice([2, 3, 5, 9])), some_service(chance)):
                cost, deadline = self.check_kind(tasks, index, kind, service)
                costs.append(cost)
                deadlines.append(deadline)
        self.assertLess({9, None}, set(costs))
        self.assertLess({1, None}, set(deadlines))

    def test_tasks_without_arrows(self):
        chance = random.Random(86)
        costs, deadlines = [], []
        for _ in range(12):
            tasks = light_tasks(chance, 1) + [single_task(chance) for _ in range(chance.randint(1, 2))]
            for service in (None, Row.steady(chance.choice([2, 3])), some_service(chance)):
                cost, deadline = self.check_kind(tasks, len(tasks) - 1, "job", service)
                costs.append(cost)
                deadlines.append(deadline)
        self.assertTrue(any(told is not None and told > 9 for told in costs))
        self.assertTrue(any(told is not None and told > 24 for told in deadlines))
        self.assertIn(None, deadlines)

    def test_several_kinds_without_arrows(self):
        task = Task("t", [("a", 5, 10), ("b", 9, 30), ("c", 80, 99)])
        for kind in "abc":
            for service in (None, Row.steady(2), Row.steady(0), row_of_steps([0] * 40 + [60, 1], 1)):
                self.check_kind([task], 0, kind, service)
                self.check_kind([SINGLE, task, PUMP], 1, kind, service)

    def test_the_end_of_the_range(self):
        fast = Row.steady(200)
        self.assertEqual(greatest_cost_of([PUMP], 0, "a", service=fast), 9)
        self.assertEqual(greatest_cost_of([SINGLE], 0, "job", service=fast), 99)
        self.assertEqual(least_deadline_of([PUMP], 0, "a", service=fast), 1)
        late = row_of_steps([0] * 23 + [1000], 1)
        self.assertEqual(least_deadline_of([Task("t", [("a", 2, 3)], [("a", "a", 12)])], 0, "a", service=late), 24)
        late = row_of_steps([0] * 98 + [1000], 1)
        self.assertEqual(least_deadline_of([SINGLE], 0, "job", service=late), 99)

    def test_none(self):
        self.assertIsNone(greatest_cost_of([PUMP], 0, "a", service=Row.steady(0)))
        self.assertIsNone(least_deadline_of([SINGLE], 0, "job", service=Row.steady(0)))
        self.assertIsNone(greatest_cost_of([FULL, SINGLE], 1, "job"))
        self.assertIsNone(least_deadline_of([FULL, SINGLE], 1, "job"))
        self.assertIsNone(greatest_cost_of([FULL, FULL, SINGLE], 2, "job"))
        # One more tick, behind the range, and it would do.
        self.assertIsNone(least_deadline_of([SINGLE], 0, "job", service=row_of_steps([0] * 99 + [1000], 1)))

    def test_each_cost(self):
        for cost in range(1, 10):
            self.assertEqual(greatest_cost_of([Task("t", [("a", 5, 1)], [("a", "a", 1)])], 0, "a",
                                              service=Row.steady(cost)), cost)
        for cost in range(1, 100):
            self.assertEqual(greatest_cost_of([Task.single("s", 50, 1)], 0, "job", service=Row.steady(cost)), cost)

    def test_each_deadline(self):
        for deadline in range(1, 25):
            service = row_of_steps([0] * (deadline - 1) + [9, 9], 1)
            task = Task("t", [("a", 5, 1)], [("a", "a", 1)])
            self.assertEqual(least_deadline_of([task], 0, "a", service=service), deadline)
        for deadline in range(1, 100):
            service = row_of_steps([0] * (deadline - 1) + [9, 9], 1)
            self.assertEqual(least_deadline_of([SINGLE], 0, "job", service=service), deadline)

    def test_answers_between(self):
        self.assertEqual([greatest_cost_of([SINGLE], 0, "job"), least_deadline_of([SINGLE], 0, "job")], [5, 2])
        self.assertEqual([greatest_cost_of([PUMP], 0, "a"), greatest_cost_of([PUMP], 0, "b")], [3, 2])
        self.assertEqual([greatest_cost_of([SINGLE, PUMP], 0, "job"), greatest_cost_of([SINGLE, PUMP], 1, "a")], [2, 2])

    def test_one_task_twice(self):
        tasks = [SINGLE, SINGLE]
        self.assertEqual([greatest_cost_of(tasks, 0, "job"), greatest_cost_of(tasks, 1, "job")], [3, 3])
        self.assertEqual([least_deadline_of(tasks, 0, "job"), least_deadline_of(tasks, 1, "job")], [2, 2])
        tasks = [PUMP, PUMP]
        for service in (None, Row.steady(2)):
            for index in (0, 1):
                for kind in "ab":
                    self.check_kind(tasks, index, kind, service)
                self.check_gap(tasks, index, "b", "a", service)

    def test_the_changed_number_alone_counts(self):
        # As passed, the list can be late.
        self.assertEqual(greatest_cost_of([Task.single("s", 99, 5)], 0, "job"), 5)
        self.assertEqual(least_deadline_of([Task.single("s", 9, 5)], 0, "job"), 9)

    def test_great_lists(self):
        tasks = [Task.single("s", 1 + at % 9, 99 - at % 40) for at in range(116)] + [PUMP, DRAIN, loops(5), loops(9)]
        for service in (Row.steady(20), Row.steady(9)):
            self.check_kind(tasks, 116, "b", service)
            self.check_gap(tasks, 117, "c", "c", service)
        self.check_kind(tasks, 3, "job", Row.steady(11))


class Gaps(LimitsCase):
    def test_many_lists(self):
        chance = random.Random(87)
        found = []
        for _ in range(70):
            tasks = light_tasks(chance) + [some_task(chance, most_kinds=3)]
            index = chance.choice([at for at, task in enumerate(tasks) if task.arrows] or [None])
            if index is None:
                continue
            first, second, _ = chance.choice(tasks[index].arrows)
            for service in (None, Row.steady(chance.choice([2, 3, 5])), some_service(chance)):
                found.append(self.check_gap(tasks, index, first, second, service))
        self.assertLess({1, None}, set(found))

    def test_each_gap(self):
        for gap in range(1, 13):
            # One job of the cost 9 in so many ticks, and work for one in so many ticks.
            service = row_of_steps([9] + [0] * (gap - 1) + [9], gap)
            task = Task("t", [("a", 9, 1)], [("a", "a", 5)])
            self.assertEqual(least_gap_of([task], 0, "a", "a", service=service), gap)
        service = row_of_steps([9] + [0] * 12 + [9], 13)
        self.assertIsNone(least_gap_of([task], 0, "a", "a", service=service))
        self.assertIsNone(least_gap_of([PUMP], 0, "a", "b", service=Row.steady(0)))


class Errors(LimitsCase):
    def test_index(self):
        for tasks in ([], [PUMP], [PUMP, SINGLE, PUMP], [loops(7, 8, 9, 11)]):
            for index in (-1, -len(tasks) - 1, -2, len(tasks), len(tasks) + 1, 10 ** 40, -10 ** 40):
                value = ("index", index)
                for kind in ("a", "zz", ""):
                    self.assert_error(OutOfRange, value, greatest_cost_of, tasks, index, kind)
                    self.assert_error(OutOfRange, value, least_deadline_of, tasks, index, kind)
                    self.assert_error(OutOfRange, value, least_gap_of, tasks, index, kind, "b")
        self.assertEqual(greatest_cost_of([PUMP, SINGLE], 1, "job"), 2)

    def test_kinds(self):
        for tasks in ([PUMP, SINGLE], [PUMP] + WIDE + [loops(8)]):
            for kind in ("c", "", "A", "job", "a b"):
                self.assert_error(UnknownKind, (kind,), greatest_cost_of, tasks, 0, kind)
                self.assert_error(UnknownKind, (kind,), least_deadline_of, tasks, 0, kind)
                self.assert_error(UnknownKind, (kind,), least_gap_of, tasks, 0, kind, "a")
                self.assert_error(UnknownKind, (kind,), least_gap_of, tasks, 0, "a", kind)
                self.assert_error(UnknownKind, (kind,), least_gap_of, tasks, 0, kind, "zz")
        self.assert_error(UnknownKind, ("a",), greatest_cost_of, [PUMP, SINGLE], 1, "a")

    def test_arrows(self):
        for tasks in ([PUMP, SINGLE], [PUMP] + WIDE + [loops(8)]):
            self.assert_error(UnknownArrow, ("a", "a"), least_gap_of, tasks, 0, "a", "a")
            self.assert_error(UnknownArrow, ("b", "b"), least_gap_of, tasks, 0, "b", "b")
        self.assert_error(UnknownArrow, ("job", "job"), least_gap_of, [PUMP, SINGLE], 1, "job", "job")
        one_way = Task("t", [("a", 1, 1), ("b", 1, 1)], [("a", "b", 3)])
        self.assert_error(UnknownArrow, ("b", "a"), least_gap_of, [one_way], 0, "b", "a")
        self.assertEqual(least_gap_of([one_way], 0, "a", "b"), 1)

    def test_by_keyword(self):
        for call in (
            lambda: greatest_cost_of([PUMP], 0, "a", None), lambda: least_deadline_of([PUMP], 0, "a", None),
            lambda: least_gap_of([PUMP], 0, "a", "b", None), lambda: least_switch(PUMP, DRAIN, [], None),
        ):
            self.assertRaises(TypeError, call)

    def test_what_is_passed(self):
        tasks = [PUMP, SINGLE, DRAIN]
        told = [[task.name, task.kinds, task.arrows] for task in tasks]
        greatest_cost_of(tasks, 0, "a")
        least_deadline_of(tasks, 1, "job")
        least_gap_of(tasks, 2, "c", "c")
        least_switch(PUMP, DRAIN, tasks)
        succession(PUMP, DRAIN, 5)
        self.assertEqual(tasks, [PUMP, SINGLE, DRAIN])
        self.assertEqual([[task.name, task.kinds, task.arrows] for task in tasks], told)


class TooLongLists(LimitsCase):
    def test_the_list_as_passed_is_too_long(self):
        tasks = WIDE + [loops(8)]
        self.assertEqual(common_period(tasks), 5544)
        self.assertRaises(TooLong, never_late, tasks, service=Row.steady(9))
        # With the gap 1 it is not, and with that it is never late.
        self.assertEqual(least_gap_of(tasks, 3, "a", "a", service=Row.steady(9)), 1)
        self.assertEqual(self.check_gap(tasks, 3, "a", "a", Row.steady(9)), 1)
        # Another number changes nothing about the period.
        for call in (greatest_cost_of, least_deadline_of):
            self.assert_error(TooLong, (5544,), call, tasks, 3, "a", service=Row.steady(9))
        self.assert_error(TooLong, (5544,), least_gap_of, tasks, 0, "a", "a")

    def test_a_gap_that_is_judged(self):
        # With the gaps 1 to 7 the fourth task takes too much, and with 8 the period is too long.
        task = Task("t", [("a", 5, 24)], [("a", "a", 3)])
        service = row_of_steps([20, 1], 1)
        self.assert_error(TooLong, (5544,), least_gap_of, WIDE + [task], 3, "a", "a", service=service)
        self.assert_error(TooLong, (5544,), least_gap_of, [task] + WIDE, 0, "a", "a", service=service)
        # If the task asks for less, judging ends before.
        task = Task("t", [("a", 4, 24)], [("a", "a", 8)])
        self.assertEqual(self.check_gap(WIDE + [task], 3, "a", "a", service), 7)

    def test_a_cost_that_is_judged(self):
        # Up to the cost 4 of a the loop of b is critical, from 5 on that of a.
        arrows = [("a", "a", 7), ("b", "b", 5), ("a", "b", 12), ("b", "a", 12)]
        task = Task("t", [("a", 1, 24), ("b", 3, 24)], arrows)
        others = [loops(8), loops(9), loops(11)]
        periods = [common_period(others + [with_cost(task, "a", cost)]) for cost in range(1, 10)]
        self.assertEqual(periods, [3960] * 4 + [5544] * 5)
        self.assert_error(TooLong, (5544,), greatest_cost_of, others + [task], 3, "a", service=Row.steady(3))
        # With a lesser service judging ends before: when the first job of a is due, only three units are left.
        service = row_of_steps([9] + [0] * 22 + [3] + [9], 1)
        self.assertEqual(self.check_kind(others + [task], 3, "a", service)[0], 3)

    def test_the_first_cost_is_too_long(self):
        arrows = [("a", "a", 5), ("b", "b", 7), ("a", "b", 12), ("b", "a", 12)]
        task = Task("t", [("a", 5, 24), ("b", 3, 24)], arrows)
        tasks = [loops(8), loops(9), loops(11), task]
        self.assertTrue(never_late(tasks, service=Row.steady(9)))
        self.assert_error(TooLong, (5544,), greatest_cost_of, tasks, 3, "a", service=Row.steady(9))
        self.assertEqual(self.check_kind(tasks, 3, "b", Row.steady(9))[1], 1)

    def test_at_the_limit(self):
        wide = row_of_steps([5] * 624 + [6], 625)
        for tasks in ([loops(8), SINGLE], [SINGLE, loops(8)], [loops(8), loops(8)]):
            index = tasks.index(SINGLE) if SINGLE in tasks else 0
            kind = tasks[index].kinds[0][0]
            for service in (wide, row_of_steps([5] * 4999 + [6], 5000)):
                self.check_kind(tasks, index, kind, service)
        self.check_gap([loops(8), loops(5)], 1, "a", "a", wide)
        self.check_switch(Task("one", [("a", 1, 9)]), Task("two", [("b", 1, 9)]), [loops(8)], wide)

    def test_with_the_service(self):
        wide = row_of_steps([5] * 1666 + [6], 1667)
        for call in (greatest_cost_of, least_deadline_of):
            self.assert_error(TooLong, (5001,), call, [SINGLE, loops(3)], 1, "a", service=wide)
            self.assertEqual(call([SINGLE, loops(2)], 1, "a", service=wide), 5 if call is greatest_cost_of else 1)
        self.assertEqual(least_gap_of([SINGLE, loops(3)], 1, "a", "a", service=wide), 1)
        task = Task("t", [("a", 9, 24)], [("a", "a", 1)])
        self.assertEqual(least_gap_of([task], 0, "a", "a", service=wide), 2)
        slow = row_of_steps([3] * 1666 + [4], 1667)
        self.assert_error(TooLong, (5001,), least_gap_of, [task], 0, "a", "a", service=slow)
        long = row_of_steps([5] * 5000 + [6], 5001)
        for call in (greatest_cost_of, least_deadline_of):
            self.assert_error(TooLong, (5001,), call, [SINGLE], 0, "job", service=long)
        self.assert_error(TooLong, (25005,), least_switch, PUMP, DRAIN, [], service=long)


class Succession(DuesCase):
    def test_name_kinds_and_arrows(self):
        first = Task("one", [("b", 2, 3), ("a", 1, 2)], [("b", "a", 2), ("b", "b", 4)])
        second = Task("two", [("d", 3, 9), ("c", 4, 8)], [("d", "c", 7), ("c", "c", 6)])
        told = succession(first, second, 5)
        self.assertEqual(told.name, "one")
        self.assertEqual(told.kinds, [("b", 2, 3), ("a", 1, 2), ("d", 3, 9), ("c", 4, 8)])
        self.assertEqual(told.arrows, [
            ("b", "a", 2), ("b", "b", 4), ("d", "c", 7), ("c", "c", 6),
            ("b", "d", 5), ("b", "c", 5), ("a", "d", 5), ("a", "c", 5),
        ])

    def test_tasks_without_arrows(self):
        told = succession(Task("one", [("a", 9, 24)]), Task("two", [("b", 1, 1)]), 12)
        self.assertEqual([told.kinds, told.arrows], [[("a", 9, 24), ("b", 1, 1)], [("a", "b", 12)]])

    def all_pairs(self, names):
        return [(first, second, 3) for first in names for second in names]

    def test_the_most_kinds_and_arrows(self):
        first = Task("one", [("a", 1, 1), ("b", 1, 1)], self.all_pairs("ab"))
        second = Task("two", [("c", 1, 1), ("d", 1, 1)], self.all_pairs("cd"))
        self.assertEqual(len(succession(first, second, 1).arrows), 12)
        three = Task("three", [("b", 1, 1), ("c", 1, 1), ("d", 1, 1)], self.all_pairs("bcd"))
        self.assertEqual(len(succession(Task("one", [("a", 1, 1)]), three, 1).arrows), 12)

    def refuse(self, wanted, values, first, second, gap=3):
        self.assert_error(wanted, values, succession, first, second, gap)
        if 1 <= gap <= 12:
            for rest in ([], [SINGLE], WIDE + [loops(8)], [FULL, FULL]):
                self.assert_error(wanted, values, least_switch, first, second, rest)

    def test_too_many_kinds(self):
        four = Task("four", [(name, 50, 50) for name in "abcd"])
        for other, count in ((four, 8), (Task("one", [("e", 1, 1)]), 5), (Task("one", [("a", 1, 1)]), 5)):
            self.refuse(WrongCount, ("kinds", count), four, other)
            self.refuse(WrongCount, ("kinds", count), other, four)
            self.assert_error(WrongCount, ("kinds", count), succession, four, other, 0)

    def test_too_many_arrows(self):
        three = Task("three", [("b", 1, 1), ("c", 1, 1), ("d", 1, 1)], self.all_pairs("bcd"))
        loop = Task("loop", [("a", 1, 1)], [("a", "a", 3)])
        self.refuse(WrongCount, ("arrows", 13), three, loop)
        self.refuse(WrongCount, ("arrows", 13), loop, three)
        # Ahead of a name in both tasks and of the gap.
        again = Task("loop", [("b", 1, 1)], [("b", "b", 3)])
        self.refuse(WrongCount, ("arrows", 13), three, again)
        self.assert_error(WrongCount, ("arrows", 13), succession, three, again, 0)

    def test_a_name_in_both_tasks(self):
        self.refuse(Repeated, ("a",), PUMP, Task("t", [("c", 1, 1), ("a", 1, 1)]))
        self.refuse(Repeated, ("b",), PUMP, Task("t", [("b", 99, 99), ("a", 1, 1)]))
        self.refuse(Repeated, ("job",), SINGLE, SINGLE)
        self.assert_error(Repeated, ("a",), succession, PUMP, Task("t", [("a", 1, 1)]), 0)

    def test_costs_and_deadlines_of_tasks_without_arrows(self):
        self.refuse(OutOfRange, ("cost", 10), PUMP, Task("t", [("c", 10, 25)]))
        self.refuse(OutOfRange, ("deadline", 25), PUMP, Task("t", [("c", 9, 25)]))
        self.refuse(OutOfRange, ("cost", 10), Task("t", [("c", 10, 25)]), PUMP)
        # The first task comes first, and a kind ahead of the next one.
        self.refuse(OutOfRange, ("deadline", 99), Task("t", [("c", 9, 99)]), Task("u", [("c", 50, 1)]))
        self.refuse(Repeated, ("c",), Task("t", [("c", 9, 9)]), Task("u", [("c", 50, 1)]))
        self.assert_error(OutOfRange, ("cost", 50), succession, PUMP, Task("t", [("c", 50, 1)]), 0)

    def test_gap(self):
        for gap in (0, 13, -1, 99):
            self.assert_error(OutOfRange, ("gap", gap), succession, PUMP, DRAIN, gap)
        for gap in range(1, 13):
            self.assertEqual(succession(PUMP, DRAIN, gap).arrows[-1], ("b", "c", gap))

    def test_walks(self):
        chance = random.Random(88)
        for _ in range(80):
            first = some_task(chance, "one", most_kinds=2)
            letters = {"a": "p", "b": "q", "c": "r", "d": "s"}
            other = some_task(chance, "two", most_kinds=2)
            second = Task("two", [(letters[name], cost, deadline) for name, cost, deadline in other.kinds], [
                (letters[one], letters[two], gap) for one, two, gap in other.arrows
            ])
            if any(cost > 9 or deadline > 24 for _, cost, deadline in first.kinds + second.kinds):
                continue
            gap = chance.randint(1, 12)
            task = succession(first, second, gap)
            begin = some_walk(chance, first, 5)
            for walk in (begin, some_walk(chance, second, 5)):
                self.assertEqual(len(Run([task], [walk]).jobs), len(walk))
            if begin:
                after = some_walk(chance, second, 5, begin=begin[-1][1] + gap)
                self.assertEqual(len(Run([task], [begin + after]).jobs), len(begin) + len(after))
                start = (second.kinds[0][0], begin[-1][1] + gap, 1)
                self.assertEqual(len(Run([task], [begin + [start]]).jobs), len(begin) + 1)
                soon = (second.kinds[0][0], begin[-1][1] + gap - 1, 1)
                self.assert_error(GapTooShort, (0, len(begin)), Run, [task], [begin + [soon]])
                back = (first.kinds[0][0], begin[-1][1] + 99, 1)
                self.assert_error(NoArrow, (0, len(begin) + 1), Run, [task], [begin + [start, back]])


class Switch(LimitsCase):
    def test_many_lists(self):
        chance = random.Random(89)
        found = []
        for _ in range(80):
            first = Task("one", [("a", chance.randint(1, 9), chance.randint(1, 24))], chance.choice([
                [], [("a", "a", chance.randint(3, 12))]
            ]))
            second = Task("two", [("b", chance.randint(1, 9), chance.randint(1, 24)), ("c", 2, 9)], chance.choice([
                [], [("b", "c", 7)], [("b", "b", chance.randint(3, 12))]
            ]))
            rest = light_tasks(chance, 1) if chance.random() < 0.5 else some_tasks(chance, 1)
            for service in (None, Row.steady(2), some_service(chance)):
                found.append(self.check_switch(first, second, rest, service))
        self.assertLess({1, None}, set(found))

    def test_known_gaps(self):
        self.assertEqual(least_switch(PUMP, DRAIN, []), 2)
        self.assertIsNone(least_switch(PUMP, DRAIN, [Task.single("s", 1, 1)]))
        self.assertIsNone(least_switch(PUMP, DRAIN, [FULL]))
        first, second = Task("one", [("a", 9, 9)]), Task("two", [("b", 9, 9)])
        self.assertEqual(least_switch(first, second, []), 9)
        self.assertEqual(least_switch(Task("one", [("a", 9, 3)]), second, [], service=Row.steady(3)), 1)

    def test_each_gap(self):
        first, second = Task("one", [("a", 9, 1)]), Task("two", [("b", 9, 1)])
        for gap in range(1, 14):
            # Work for one job in the first tick, and for another one so many ticks later.
            service = row_of_steps([9] + [0] * (gap - 1) + [9, 0], 1)
            self.assertEqual(least_switch(first, second, [], service=service), gap if gap <= 12 else None)

    def test_too_long(self):
        # The period of the succession is 1; the one of the rest is above the limit or not.
        first, second = Task("one", [("a", 1, 9)]), Task("two", [("b", 1, 9)])
        self.assert_error(TooLong, (5544,), least_switch, first, second, WIDE + [loops(8)])
        self.assertEqual(least_switch(first, second, WIDE, service=Row.steady(4)), 1)
        # The cycles of both tasks count, whatever the gap is.
        self.assert_error(TooLong, (5544,), least_switch, loops(8), second, WIDE)
        slow = Task("slow", [("c", 1, 9)], [("c", "c", 12)])
        self.assert_error(TooLong, (5544,), least_switch, ring(4, 4), slow, WIDE)
        # Where the second task has the greater rate, the cycle of the first one is not critical.
        self.assertEqual(least_switch(ring(4, 4), DRAIN, WIDE, service=Row.steady(6)), 1)


if __name__ == "__main__":
    unittest.main()
