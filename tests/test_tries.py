"""Points 90 to 94: which answers to tries go together, and lists of tasks that give them."""

import itertools
import random
import unittest

from helper import BAD_SPEEDS, DuesCase
from walkdues.company import fits_job
from walkdues.errors import Clash, NotOpen, OutOfRange
from walkdues.rows import Row
from walkdues.tasks import Task
from walkdues.tries import answering_set, certain_answer, open_sets
from walkdues.verdicts import never_late, slack_row


def clash_of(tries, speed):
    """The (i, j) of the first clash, as point 91 says it; None if there is none."""
    for i, (cost, deadline, admitted) in enumerate(tries):
        if not admitted:
            continue
        if cost > speed * deadline:
            return (i, None)
        for j, (other_cost, other_deadline, other_admitted) in enumerate(tries):
            if not other_admitted and other_cost <= cost - speed * max(0, deadline - other_deadline):
                return (i, j)
    return None


def bounds(tries, ticks, speed):
    """low(t) and high(t) of point 93."""
    low = max([0] + [c - speed * max(0, d - ticks) for c, d, yes in tries if yes])
    high = min([speed * ticks] + [e - 1 + speed * max(0, ticks - f) for e, f, yes in tries if not yes])
    return low, high


def true_tries(chance, speed, count):
    """Tries of which all are answered by one list of tasks."""
    tasks = [
        Task.single("s", chance.randint(1, min(99, 3 * speed)), chance.randint(1, 99))
        for _ in range(chance.randint(0, 30))
    ]
    while not never_late(tasks, service=Row.steady(speed)):
        tasks.pop()
    slack = slack_row(tasks, service=Row.steady(speed))
    tries = []
    for _ in range(count):
        deadline = chance.randint(1, 99)
        near = slack(deadline) + chance.choice([0, 1, -1, 2, chance.randint(-50, 50)])
        cost = min(10000, max(1, near))
        tries.append((cost, deadline, cost <= slack(deadline)))
    return tries


def any_tries(chance, speed, count, most_deadline=99):
    most_cost = min(10000, speed * most_deadline + 2)
    return [
        (chance.randint(1, most_cost), chance.randint(1, most_deadline), chance.random() < 0.4) for _ in range(count)
    ]


class TriesCase(DuesCase):
    def check_set(self, tasks, tries, speed):
        """The tasks answer the tries at this speed, and are such as point 92 says."""
        service = Row.steady(speed)
        self.assertIs(type(tasks), list)
        self.assertLessEqual(len(tasks), 99)
        for task in tasks:
            self.assertIs(type(task), Task)
            self.assertEqual([len(task.kinds), task.arrows], [1, []])
        self.assertIs(never_late(tasks, service=service), True)
        slack = slack_row(tasks, service=service)
        for cost, deadline, admitted in tries:
            self.assertIs((cost, deadline) in slack, admitted)
        for cost, deadline, admitted in tries[-2:]:
            self.assertIs(fits_job(tasks, cost, deadline, service=service), admitted)


class AnsweringSet(TriesCase):
    def check(self, tries, speed):
        kept = list(tries)
        clash = clash_of(tries, speed)
        if clash is None:
            self.check_set(answering_set(tries, speed=speed), tries, speed)
        else:
            self.assert_error(Clash, clash, answering_set, tries, speed=speed)
        self.assertEqual(tries, kept)
        return clash

    def test_answers_of_a_list_of_tasks(self):
        chance = random.Random(92)
        for _ in range(60):
            speed = chance.choice([1, 1, 2, 5, 50, 99])
            self.assertIsNone(self.check(true_tries(chance, speed, chance.randint(0, 60)), speed))

    def test_any_tries(self):
        chance = random.Random(93)
        found = []
        for _ in range(150):
            speed = chance.choice([1, 2, 3, 99])
            found.append(self.check(any_tries(chance, speed, chance.randint(1, 4), chance.choice([3, 99])), speed))
        self.assertIn(None, found)
        self.assertTrue(any(told is not None and told[1] is None for told in found))
        self.assertTrue(any(told is not None and told[1] is not None and told[1] > told[0] for told in found))
        self.assertTrue(any(told is not None and told[1] is not None and told[1] < told[0] for told in found))

    def test_no_tries(self):
        for speed in (1, 2, 99):
            self.check([], speed)
        self.check_set(answering_set([]), [], 1)

    def test_all_admitted_and_all_refused(self):
        for speed in (1, 7, 99):
            full = [(min(10000, speed * deadline), deadline, True) for deadline in range(1, 61)]
            self.assertIsNone(self.check(full, speed))
            none = [(1, deadline, False) for deadline in range(40, 100)]
            self.assertIsNone(self.check(none, speed))
            self.assertIsNone(self.check([(1, 99, False)], speed))
            self.assertIsNone(self.check([(min(10000, 99 * speed), 99, True)], speed))

    def test_sixty_tries_at_the_edge(self):
        for speed in (1, 3, 99):
            tries = []
            for deadline in range(3, 99, 4):
                slack = speed * (deadline // 3)
                tries += [(slack, deadline, True), (slack + 1, deadline, False)]
            self.assertIsNone(self.check(tries[:60], speed))

    def test_one_deadline(self):
        self.assertIsNone(self.check([(3, 5, True), (4, 5, False)], 1))
        self.assertIsNone(self.check([(4, 5, False), (3, 5, True), (3, 5, True), (5, 5, False)], 1))
        self.assertEqual(self.check([(3, 5, True), (3, 5, False)], 1), (0, 1))
        self.assertEqual(self.check([(2, 5, False), (3, 5, True)], 1), (1, 0))
        self.assertEqual(self.check([(9, 5, True), (8, 5, False)], 2), (0, 1))
        self.assertIsNone(self.check([(9, 5, True), (10, 5, False)], 2))

    def test_a_try_that_clashes_with_itself(self):
        for speed in (1, 2, 99):
            for deadline in (1, 7, 99):
                self.assertIsNone(self.check([(speed * deadline, deadline, True)], speed))
                self.assertEqual(self.check([(speed * deadline + 1, deadline, True)], speed), (0, None))
                self.assertIsNone(self.check([(speed * deadline + 1, deadline, False)], speed))
        # It also clashes with an earlier one.
        self.assertEqual(self.check([(1, 9, False), (10, 9, True), (11, 9, True)], 1), (1, None))
        self.assertEqual(self.check([(1, 9, False), (5, 9, True), (11, 9, True)], 1), (1, 0))

    def test_the_edge_of_a_clash(self):
        for speed in (1, 2, 7):
            for later in (0, 1, 5):
                cost = speed * 10
                edge = cost - speed * later
                self.assertEqual(self.check([(cost, 20, True), (edge, 20 - later, False)], speed), (0, 1))
                self.assertIsNone(self.check([(cost, 20, True), (edge + 1, 20 - later, False)], speed))
                self.assertIsNone(self.check([(cost - 1, 20, True), (edge, 20 - later, False)], speed))
                # A refused try with a later deadline asks for no less.
                self.assertEqual(self.check([(cost, 20, True), (cost, 20 + later, False)], speed), (0, 1))
                self.assertIsNone(self.check([(cost, 20, True), (cost + 1, 20 + later, False)], speed))

    def test_the_least_indexes(self):
        tries = [(9, 9, False), (8, 9, False), (2, 9, True), (8, 9, True), (9, 9, True), (1, 9, False)]
        self.assertEqual(self.check(tries, 1), (2, 5))
        self.assertEqual(self.check(tries[:5], 1), (3, 1))
        self.assertEqual(self.check(tries[:3] + tries[4:5], 1), (3, 0))
        self.assertIsNone(self.check(tries[:3], 1))

    def test_speed_ahead_of_clash(self):
        for speed in BAD_SPEEDS:
            for tries in ([], [(9, 1, True)], [(3, 5, True), (3, 5, False)]):
                self.assert_error(OutOfRange, ("speed", speed), answering_set, tries, speed=speed)
                self.assert_error(OutOfRange, ("speed", speed), certain_answer, tries, 1, 1, speed=speed)
                self.assert_error(OutOfRange, ("speed", speed), open_sets, tries, 1, 1, speed=speed)

    def test_without_speed(self):
        tries = [(3, 6, True), (3, 4, False)]
        self.check_set(answering_set(tries), tries, 1)
        self.assert_error(Clash, (0, None), answering_set, [(2, 1, True)])

    def test_by_keyword(self):
        for call in (
            lambda: answering_set([], 1), lambda: certain_answer([], 1, 1, 1), lambda: open_sets([], 1, 1, 1)
        ):
            self.assertRaises(TypeError, call)

    def test_a_new_list(self):
        told = answering_set([])
        told.append(None)
        self.assertNotIn(None, answering_set([]))


class CertainAnswer(TriesCase):
    def check(self, tries, cost, deadline, speed):
        kept = list(tries)
        clash = clash_of(tries, speed)
        if clash is not None:
            self.assert_error(Clash, clash, certain_answer, tries, cost, deadline, speed=speed)
            self.assert_error(Clash, clash, open_sets, tries, cost, deadline, speed=speed)
            return "clash"
        low, high = bounds(tries, deadline, speed)
        wanted = True if cost <= low else False if cost > high else None
        self.assertIs(certain_answer(tries, cost, deadline, speed=speed), wanted)
        if wanted is not None:
            self.assert_error(NotOpen, (wanted,), open_sets, tries, cost, deadline, speed=speed)
        else:
            told = open_sets(tries, cost, deadline, speed=speed)
            self.assertEqual([type(told), len(told)], [tuple, 2])
            for tasks, admitted in zip(told, (True, False)):
                self.check_set(tasks, tries + [(cost, deadline, admitted)], speed)
        self.assertEqual(tries, kept)
        return wanted

    def test_just_at_low_and_high(self):
        chance = random.Random(94)
        found = []
        for _ in range(30):
            speed = chance.choice([1, 2, 5, 99])
            tries = true_tries(chance, speed, chance.randint(0, 12))
            deadline = chance.randint(1, 99)
            low, high = bounds(tries, deadline, speed)
            for cost in (low, low + 1, high, high + 1, low - 1):
                if 1 <= cost <= 10000:
                    found.append(self.check(tries, cost, deadline, speed))
        self.assertEqual(set(found), {True, False, None})

    def test_any_tries(self):
        chance = random.Random(95)
        found = []
        for _ in range(150):
            speed = chance.choice([1, 2, 99])
            tries = any_tries(chance, speed, chance.randint(0, 4))
            cost, deadline, _ = any_tries(chance, speed, 1)[0]
            found.append(self.check(tries, cost, deadline, speed))
        self.assertEqual(set(found), {True, False, None, "clash"})

    def test_no_tries(self):
        for speed in (1, 2, 99):
            for deadline in (1, 50, 99):
                self.assertIsNone(self.check([], 1, deadline, speed))
                self.assertIsNone(self.check([], speed * deadline, deadline, speed))
                self.assertIs(self.check([], speed * deadline + 1, deadline, speed), False)

    def test_known_answers(self):
        tries = [(3, 6, True), (3, 4, False)]
        told = [self.check(tries, cost, 5, 1) for cost in (1, 2, 3, 4)]
        self.assertEqual(told, [True, True, None, False])
        self.assertEqual([self.check(tries, 3, deadline, 1) for deadline in (4, 5, 6, 99)], [False, None, True, True])
        self.assertEqual([self.check(tries, 10000, deadline, 1) for deadline in (1, 99)], [False, False])

    def test_without_speed(self):
        self.assertIsNone(certain_answer([], 5, 5))
        self.assertIs(certain_answer([], 6, 5), False)
        self.assert_error(NotOpen, (False,), open_sets, [], 6, 5)
        self.assertEqual(len(open_sets([], 5, 5)), 2)

    def test_clash_ahead_of_the_answer(self):
        tries = [(3, 5, True), (3, 5, False)]
        for cost in (1, 3, 9999):
            self.assertEqual(self.check(tries, cost, 5, 1), "clash")

    def test_sixty_tries(self):
        chance = random.Random(96)
        for _ in range(10):
            tries = true_tries(chance, 3, 60)
            for _ in range(10):
                self.check(tries, chance.randint(1, 300), chance.randint(1, 99), 3)


class AllSlacks(TriesCase):
    """Points 91 and 93 against all slacks that lists of tasks can have up to some deadline."""

    def test_small_tries(self):
        chance = random.Random(97)
        last = 5
        found = []
        for _ in range(100):
            speed = chance.choice([1, 2])
            slacks = [
                [sum(steps[:count]) for count in range(last + 1)]
                for steps in itertools.product(range(speed + 1), repeat=last)
            ]
            tries = any_tries(chance, speed, chance.randint(0, 4), last)
            answering = [
                slack for slack in slacks if all((cost <= slack[deadline]) is yes for cost, deadline, yes in tries)
            ]
            if not answering:
                found.append("clash")
                self.assert_error(Clash, clash_of(tries, speed), answering_set, tries, speed=speed)
                continue
            self.check_set(answering_set(tries, speed=speed), tries, speed)
            for deadline in range(1, last + 1):
                for cost in range(1, speed * last + 2):
                    answers = {cost <= slack[deadline] for slack in answering}
                    wanted = answers.pop() if len(answers) == 1 else None
                    self.assertIs(certain_answer(tries, cost, deadline, speed=speed), wanted)
                    found.append(wanted)
        self.assertEqual(set(found), {True, False, None, "clash"})


if __name__ == "__main__":
    unittest.main()
