"""Points 43 to 49: cycles, rates, the utilization, the common period and heights."""

import itertools
import math
import random
import unittest
from fractions import Fraction

from helper import DuesCase, some_task
from walkdues.cycles import (
    common_period, critical_cycles, heights, rate, simple_cycles, utilization, utilization_holds,
)
from walkdues.demand import demand
from walkdues.errors import UnknownKind
from walkdues.tasks import Task

TASK = Task("t", [("a", 3, 5), ("b", 1, 4)], [("a", "a", 6), ("a", "b", 1), ("b", "a", 3)])
SINGLE = Task.single("s", 99, 1)
# Four loops and no other arrow: 7, 8, 9 and 11 have the least common multiple 5544.
LOOPS = Task(
    "loops", [("a", 1, 1), ("b", 1, 1), ("c", 1, 1), ("d", 1, 1)],
    [("a", "a", 7), ("b", "b", 8), ("c", "c", 9), ("d", "d", 11)],
)
HUGE = 10 ** 40


def names_of(task):
    return [name for name, _, _ in task.kinds]


def all_cycles(task):
    """The cycles by following every sequence of arrows, and sorting what comes back."""
    names = names_of(task)
    found = {}
    trails = [[name] for name in names]
    while trails:
        trail = trails.pop()
        for second, _ in task.followers(trail[-1]):
            if second == trail[0]:
                first = min(range(len(trail)), key=lambda at: names.index(trail[at]))
                turned = tuple(trail[first:] + trail[:first])
                found[turned] = (turned, cost_of(task, turned), length_of(task, turned))
            elif second not in trail:
                trails.append(trail + [second])
    return sorted(found.values(), key=lambda told: (len(told[0]), [names.index(name) for name in told[0]]))


def cost_of(task, kinds):
    return sum(task.cost_of(kind) for kind in kinds)


def length_of(task, kinds):
    return sum(dict(task.followers(kinds[at - 1]))[kinds[at]] for at in range(len(kinds)))


def reached(task, kind):
    found, before = {kind}, set()
    while found != before:
        before = set(found)
        for name in before:
            found |= {second for second, _ in task.followers(name)}
    return found


def rate_of(task, kind):
    near = reached(task, kind)
    ratios = [Fraction(cost, length) for kinds, cost, length in all_cycles(task) if set(kinds) <= near]
    return max(ratios, default=Fraction(0))


def pair(fraction):
    return (fraction.numerator, fraction.denominator)


def height_of(task, kind, fraction):
    """The greatest sum of a sequence of at most six arrows: more than any way that goes through no kind twice."""
    best = 0
    ends = {kind: 0}
    for _ in range(6):
        after = {}
        for name, total in ends.items():
            for second, gap in task.followers(name):
                more = total + fraction.denominator * task.cost_of(name) - fraction.numerator * gap
                after[second] = max(more, after.get(second, more))
        ends = after
        best = max([best, *ends.values()])
    return best


class SimpleCycles(DuesCase):
    def test_many_tasks(self):
        chance = random.Random(43)
        for _ in range(400):
            task = some_task(chance)
            self.assertEqual(simple_cycles(task), all_cycles(task))

    def test_without_cycle(self):
        self.assertEqual(simple_cycles(SINGLE), [])
        chain = Task("t", [("c", 1, 1), ("a", 1, 1), ("b", 1, 1)], [("a", "b", 1), ("b", "c", 1), ("a", "c", 1)])
        self.assertEqual(simple_cycles(chain), [])

    def test_loops(self):
        self.assertEqual(simple_cycles(Task("t", [("a", 9, 1)], [("a", "a", 12)])), [(("a",), 9, 12)])
        self.assertEqual(simple_cycles(LOOPS), [(("a",), 1, 7), (("b",), 1, 8), (("c",), 1, 9), (("d",), 1, 11)])

    def test_the_order_of_the_kinds_and_not_of_the_names(self):
        arrows = [("a", "b", 1), ("b", "a", 2), ("b", "b", 3), ("a", "a", 4)]
        task = Task("t", [("b", 5, 1), ("a", 2, 1)], arrows)
        self.assertEqual(simple_cycles(task), [(("b",), 5, 3), (("a",), 2, 4), (("b", "a"), 7, 3)])
        task = Task("t", [("a", 2, 1), ("b", 5, 1)], arrows)
        self.assertEqual(simple_cycles(task), [(("a",), 2, 4), (("b",), 5, 3), (("a", "b"), 7, 3)])

    def test_four_kinds_with_twelve_arrows(self):
        names = ("d", "c", "b", "a")
        pairs = list(itertools.permutations(names, 2))
        task = Task("t", [(name, 1, 1) for name in names], [(first, second, 1) for first, second in pairs])
        self.assertEqual([kinds for kinds, _, _ in simple_cycles(task)], [
            ("d", "c"), ("d", "b"), ("d", "a"), ("c", "b"), ("c", "a"), ("b", "a"),
            ("d", "c", "b"), ("d", "c", "a"), ("d", "b", "c"), ("d", "b", "a"), ("d", "a", "c"), ("d", "a", "b"),
            ("c", "b", "a"), ("c", "a", "b"),
            ("d", "c", "b", "a"), ("d", "c", "a", "b"), ("d", "b", "c", "a"), ("d", "b", "a", "c"),
            ("d", "a", "c", "b"), ("d", "a", "b", "c"),
        ])
        self.assertEqual({(len(kinds), cost, length) for kinds, cost, length in simple_cycles(task)}, {
            (2, 2, 2), (3, 3, 3), (4, 4, 4)
        })

    def test_both_ways_round(self):
        arrows = [("a", "b", 1), ("b", "c", 2), ("c", "a", 3), ("b", "a", 4), ("c", "b", 5), ("a", "c", 6)]
        task = Task("t", [("a", 1, 1), ("b", 2, 1), ("c", 4, 1)], arrows)
        self.assertEqual(simple_cycles(task), [
            (("a", "b"), 3, 5), (("a", "c"), 5, 9), (("b", "c"), 6, 7), (("a", "b", "c"), 7, 6), (("a", "c", "b"), 7, 15)
        ])

    def test_what_is_returned_is_new(self):
        told = simple_cycles(TASK)
        self.assertEqual({type(cycle) for cycle in told} | {type(cycle[0]) for cycle in told}, {tuple})
        told.clear()
        critical_cycles(TASK).clear()
        self.assertEqual(len(simple_cycles(TASK)), 2)
        self.assertEqual(len(critical_cycles(TASK)), 1)


class Rates(DuesCase):
    def test_many_tasks(self):
        chance = random.Random(44)
        for _ in range(300):
            task = some_task(chance)
            for name in names_of(task):
                self.assertEqual(rate(task, name), pair(rate_of(task, name)))

    def test_lowest_terms_and_zero(self):
        self.assertEqual(rate(Task("t", [("a", 6, 1)], [("a", "a", 9)]), "a"), (2, 3))
        self.assertEqual(rate(Task("t", [("a", 9, 1)], [("a", "a", 3)]), "a"), (3, 1))
        self.assertEqual(rate(SINGLE, "job"), (0, 1))
        self.assertEqual(rate(Task("t", [("a", 9, 1), ("b", 1, 1)], [("a", "b", 4)]), "a"), (0, 1))
        self.assertIs(type(rate(SINGLE, "job")), tuple)

    def test_kinds_that_reach_a_cycle_and_are_on_none(self):
        kinds = [("x", 9, 1), ("y", 9, 1), ("z", 2, 1), ("w", 9, 1)]
        task = Task("t", kinds, [("x", "y", 1), ("y", "z", 12), ("z", "z", 5), ("z", "w", 1)])
        self.assertEqual([rate(task, name) for name in "xyzw"], [(2, 5), (2, 5), (2, 5), (0, 1)])

    def test_a_lesser_cycle_first(self):
        task = Task("t", [("a", 1, 1), ("b", 1, 1)], [("a", "a", 3), ("a", "b", 9), ("b", "b", 2)])
        self.assertEqual([rate(task, "a"), rate(task, "b")], [(1, 2), (1, 2)])
        task = Task("t", [("a", 1, 1), ("b", 1, 1)], [("a", "a", 2), ("a", "b", 9), ("b", "b", 3)])
        self.assertEqual([rate(task, "a"), rate(task, "b")], [(1, 2), (1, 3)])

    def test_unknown_kind(self):
        for task in (TASK, SINGLE):
            for kind in ("", "c", "A", "t", "ab", "a "):
                self.assert_error(UnknownKind, (kind,), rate, task, kind)


class Utilization(DuesCase):
    def test_no_task(self):
        self.assertEqual(utilization([]), (0, 1))
        self.assertEqual(utilization([SINGLE] * 120), (0, 1))

    def test_many_lists(self):
        chance = random.Random(45)
        for _ in range(120):
            tasks = [some_task(chance) for _ in range(chance.randint(1, 4))]
            tasks += tasks[:chance.randint(0, 1)]
            total = sum(max(rate_of(task, name) for name in names_of(task)) for task in tasks)
            self.assertEqual(utilization(tasks), pair(total))

    def test_known_lists(self):
        half = Task("h", [("a", 1, 1)], [("a", "a", 2)])
        third = Task("h", [("a", 4, 1)], [("a", "a", 12)])
        self.assertEqual(utilization([half]), (1, 2))
        self.assertEqual(utilization([half, third]), (5, 6))
        self.assertEqual(utilization([half, half]), (1, 1))
        self.assertEqual(utilization([third, third, half, SINGLE]), (7, 6))
        self.assertEqual(utilization([LOOPS]), (1, 7))

    def test_what_is_passed(self):
        tasks = [TASK, SINGLE]
        utilization(tasks)
        common_period(tasks)
        self.assertEqual(tasks, [TASK, SINGLE])


class Critical(DuesCase):
    def test_many_tasks(self):
        chance = random.Random(46)
        for _ in range(300):
            task = some_task(chance, most_cost=chance.choice([2, 9]), most_gap=chance.choice([2, 12]))
            wanted = [told for told in all_cycles(task) if Fraction(told[1], told[2]) == rate_of(task, told[0][0])]
            self.assertEqual(critical_cycles(task), wanted)
            self.assertEqual(common_period([task]), math.lcm(*[told[2] for told in wanted]))

    def test_several_rates(self):
        self.assertEqual(critical_cycles(LOOPS), simple_cycles(LOOPS))
        task = Task("t", [("a", 1, 1), ("b", 1, 1)], [("a", "a", 3), ("a", "b", 9), ("b", "b", 2)])
        self.assertEqual(critical_cycles(task), [(("b",), 1, 2)])
        task = Task("t", [("a", 1, 1), ("b", 1, 1)], [("a", "a", 2), ("a", "b", 9), ("b", "b", 3)])
        self.assertEqual(critical_cycles(task), [(("a",), 1, 2), (("b",), 1, 3)])

    def test_several_critical_cycles_of_one_rate(self):
        arrows = [("b", "b", 4), ("a", "b", 2), ("b", "a", 4), ("a", "a", 2)]
        task = Task("t", [("b", 2, 1), ("a", 1, 1)], arrows)
        self.assertEqual(critical_cycles(task), [(("b",), 2, 4), (("a",), 1, 2), (("b", "a"), 3, 6)])
        self.assertEqual(common_period([task]), 12)

    def test_without_cycle(self):
        self.assertEqual(critical_cycles(SINGLE), [])
        self.assertEqual([common_period([]), common_period([SINGLE] * 3)], [1, 1])

    def test_common_period_of_lists(self):
        self.assertEqual(common_period([TASK]), 4)
        self.assertEqual(common_period([TASK, TASK]), 4)
        self.assertEqual(common_period([LOOPS]), 5544)
        self.assertEqual(common_period([LOOPS, SINGLE, TASK]), 5544)
        six = Task("t", [("a", 1, 1)], [("a", "a", 6)])
        self.assertEqual([common_period([TASK, six]), common_period([six, TASK])], [12, 12])


class Heights(DuesCase):
    def test_many_tasks(self):
        chance = random.Random(47)
        for _ in range(300):
            task = some_task(chance)
            fraction = Fraction(*utilization([task]))
            told = heights(task)
            self.assertEqual(list(told), names_of(task))
            self.assertEqual(told, {name: height_of(task, name, fraction) for name in names_of(task)})

    def test_without_cycle(self):
        self.assertEqual(heights(SINGLE), {"job": 0})
        kinds = [("d", 2, 1), ("c", 9, 1), ("b", 5, 1), ("a", 7, 1)]
        chain = Task("t", kinds, [("a", "b", 12), ("b", "c", 1), ("c", "d", 3), ("a", "d", 1)])
        self.assertEqual(list(heights(chain).items()), [("d", 0), ("c", 9), ("b", 14), ("a", 21)])

    def test_the_longest_way(self):
        # The way from a leads through all four kinds, and the kinds stand against its direction.
        kinds = [("d", 1, 1), ("c", 9, 1), ("b", 9, 1), ("a", 9, 1)]
        task = Task("t", kinds, [("d", "d", 1), ("c", "d", 1), ("b", "c", 1), ("a", "b", 1)])
        self.assertEqual(heights(task), {"d": 0, "c": 8, "b": 16, "a": 24})

    def test_a_new_dict(self):
        told = heights(TASK)
        told["a"] = 99
        self.assertEqual(heights(TASK), {"a": 2, "b": 0})


class Holds(DuesCase):
    def test_many_tasks(self):
        chance = random.Random(48)
        for _ in range(200):
            task = some_task(chance)
            ratio, levels = utilization([task]), heights(task)
            cycles = [kinds for kinds, cost, length in simple_cycles(task) if Fraction(cost, length) == Fraction(*ratio)]
            for cycle in cycles or [None]:
                self.assertIs(utilization_holds(task, ratio, cycle, levels), True)
                for times in (2, 7):
                    more = {name: times * level for name, level in levels.items()}
                    self.assertTrue(utilization_holds(task, (times * ratio[0], times * ratio[1]), cycle, more))
                self.check_broken(task, ratio, cycle, levels)

    def check_broken(self, task, ratio, cycle, levels):
        """Each condition is broken by one step."""
        top, bottom = ratio
        for other in ((top + 1, bottom), (top - 1, bottom), (-top - 1, -bottom), (top, 0), (0, 0), (top, -bottom)):
            self.assertIs(utilization_holds(task, other, cycle, levels), False)
        if top > 0:
            self.assertFalse(utilization_holds(task, (top, bottom + 1), cycle, levels))
            self.assertFalse(utilization_holds(task, ratio, None, levels))
        for name in levels:
            self.assertFalse(utilization_holds(task, ratio, cycle, {**levels, name: -1}))
            lacking = {key: level for key, level in levels.items() if key != name}
            self.assertFalse(utilization_holds(task, ratio, cycle, lacking))
            self.assertFalse(utilization_holds(task, ratio, cycle, {**lacking, "zz": 0}))
            if levels[name] > 0:
                # The heights are the least levels that hold.
                self.assertFalse(utilization_holds(task, ratio, cycle, {**levels, name: levels[name] - 1}))
        self.assertFalse(utilization_holds(task, ratio, cycle, {**levels, "zz": 0}))
        self.assertFalse(utilization_holds(task, ratio, (), levels))

    def test_levels_in_any_order_and_higher(self):
        self.assertTrue(utilization_holds(TASK, (1, 1), ("a", "b"), {"b": 0, "a": 2}))
        self.assertTrue(utilization_holds(TASK, (1, 1), ("a", "b"), {"a": 3, "b": 1}))
        self.assertTrue(utilization_holds(TASK, (1, 1), ("a", "b"), {"a": HUGE + 2, "b": HUGE}))
        self.assertFalse(utilization_holds(TASK, (1, 1), ("a", "b"), {"a": 3, "b": 0}))
        self.assertFalse(utilization_holds(TASK, (1, 1), ("a", "b"), {"a": 2, "b": 1}))

    def test_multiples(self):
        self.assertTrue(utilization_holds(TASK, (7, 7), ("a", "b"), {"a": 14, "b": 0}))
        self.assertFalse(utilization_holds(TASK, (7, 7), ("a", "b"), {"a": 2, "b": 0}))
        self.assertFalse(utilization_holds(TASK, (7, 7), ("a", "b"), {"a": 13, "b": 0}))
        self.assertFalse(utilization_holds(TASK, (-1, -1), ("a", "b"), {"a": 2, "b": 0}))
        self.assertTrue(utilization_holds(SINGLE, (0, HUGE), None, {"job": 0}))

    def test_a_level_one_too_low_at_each_arrow(self):
        kinds = [("a", 4, 1), ("b", 3, 1), ("c", 2, 1)]
        task = Task("t", kinds, [("a", "b", 1), ("b", "c", 2), ("c", "a", 3)])
        ratio, levels = utilization([task]), heights(task)
        self.assertEqual([ratio, levels], [(3, 2), {"a": 5, "b": 0, "c": 0}])
        higher = {"a": 15, "b": 10, "c": 10}
        for first in levels:
            self.assertTrue(utilization_holds(task, ratio, ("a", "b", "c"), higher))
            self.assertFalse(utilization_holds(task, ratio, ("a", "b", "c"), {**higher, first: higher[first] - 1}))

    def test_without_arrows(self):
        self.assertTrue(utilization_holds(SINGLE, (0, 1), None, {"job": 0}))
        self.assertTrue(utilization_holds(SINGLE, (0, 5), None, {"job": 7}))
        for ratio in ((1, 5), (-1, 1), (0, 0), (0, -1)):
            self.assertFalse(utilization_holds(SINGLE, ratio, None, {"job": 0}))
        for cycle in ((), ("job",), ("",), ("x",), ("job", "job")):
            self.assertFalse(utilization_holds(SINGLE, (0, 1), cycle, {"job": 0}))

    def test_none_and_a_cycle(self):
        # With a loop no levels hold for the ratio 0.
        loop = Task("t", [("a", 1, 1)], [("a", "a", 12)])
        for levels in ({"a": 0}, {"a": 99}):
            self.assertFalse(utilization_holds(loop, (0, 1), None, levels))
            self.assertFalse(utilization_holds(loop, (0, 1), ("a",), levels))
        self.assertFalse(utilization_holds(loop, (1, 12), None, {"a": 0}))
        self.assertTrue(utilization_holds(loop, (1, 12), ("a",), {"a": 0}))

    def test_cycles_begun_anywhere(self):
        arrows = [("a", "b", 1), ("b", "c", 2), ("c", "d", 3), ("d", "a", 4), ("b", "a", 9), ("c", "c", 10)]
        task = Task("t", [("a", 1, 1), ("b", 2, 1), ("c", 3, 1), ("d", 4, 1)], arrows)
        levels = heights(task)
        self.assertEqual(utilization([task]), (1, 1))
        for cycle in itertools.permutations("abcd"):
            right = "".join(cycle) in ("abcd", "bcda", "cdab", "dabc")
            self.assertIs(utilization_holds(task, (1, 1), cycle, levels), right)

    def test_wrong_cycles(self):
        arrows = [("a", "b", 2), ("b", "a", 2), ("a", "a", 1), ("b", "b", 3), ("b", "c", 2)]
        task = Task("t", [("a", 2, 1), ("b", 6, 1), ("c", 1, 1)], arrows)
        ratio, levels = utilization([task]), heights(task)
        self.assertEqual(ratio, (2, 1))
        for cycle in (("a", "b"), ("b", "a"), ("a",), ("b",)):
            self.assertTrue(utilization_holds(task, ratio, cycle, levels))
        wrong = [
            (), ("c",), ("b", "c"), ("a", "c"), ("a", "b", "c"), ("a", "a"), ("b", "b"), ("a", "b", "a", "b"),
            ("a", "b", "b"), ("a", "a", "b"), ("x",), ("a", "x"), ("x", "b"), ("",), ("a", ""), ("ab",), ("A",),
        ]
        for cycle in wrong:
            self.assertIs(utilization_holds(task, ratio, cycle, levels), False)

    def test_a_cycle_with_another_ratio(self):
        self.assertTrue(utilization_holds(TASK, (1, 1), ("b", "a"), {"a": 2, "b": 0}))
        self.assertFalse(utilization_holds(TASK, (1, 1), ("a",), {"a": 2, "b": 0}))
        self.assertFalse(utilization_holds(TASK, (1, 2), ("a",), {"a": 2, "b": 0}))
        self.assertFalse(utilization_holds(TASK, (1, 2), ("a",), {"a": 99, "b": 99}))
        # Levels that hold, with a ratio that is too great for the cycle.
        self.assertFalse(utilization_holds(TASK, (2, 1), ("a", "b"), {"a": 1, "b": 0}))

    def test_what_is_passed(self):
        levels = {"b": 0, "a": 2}
        utilization_holds(TASK, (1, 1), ("a", "b"), levels)
        self.assertEqual(list(levels.items()), [("b", 0), ("a", 2)])


class TheFacts(DuesCase):
    def test_bounds_of_the_demand(self):
        chance = random.Random(49)
        for _ in range(100):
            task = some_task(chance)
            told = demand([task], 400)
            fraction = Fraction(*utilization([task]))
            costs = sum(cost for _, cost, _ in task.kinds)
            for moment in range(401):
                self.assertLessEqual(told[moment], fraction * moment + costs)
            for kinds, cost, length in simple_cycles(task):
                longest = max(task.deadline_of(kind) for kind in kinds)
                for turns in range((400 - longest) // length + 1):
                    self.assertGreaterEqual(told[turns * length + longest], turns * cost)


if __name__ == "__main__":
    unittest.main()
