"""Points 36 to 41: the demand of kinds, tasks and lists of tasks, and walks and runs that reach it."""

import random
import unittest

from helper import DuesCase, some_task, some_walk
from walkdues.demand import demand, heavy_run, heavy_walk, kind_demands, walk_demand
from walkdues.errors import BadRelease, GapTooShort, NoArrow, UnknownKind
from walkdues.intervals import interval_demands
from walkdues.runs import Run
from walkdues.tasks import Task

PUMP = Task("pump", [("a", 2, 3), ("b", 1, 2), ("c", 9, 24)], [("a", "b", 2), ("b", "a", 4), ("a", "a", 12)])
SINGLE = Task.single("s", 2, 5)
LOOP = Task("loop", [("a", 1, 1)], [("a", "a", 1)])
HUGE = 10 ** 40


def walks_from(task, kind, begin, last):
    """All walks that begin with this kind at this moment, with no release behind the last moment."""
    yield [(kind, begin)]
    for second, gap in task.followers(kind):
        for release in range(begin + gap, last + 1):
            for walk in walks_from(task, second, release, last):
                yield [(kind, begin)] + walk


def searched_demands(task, ticks):
    """The demands of the kinds, by a search through all walks."""
    tables = {}
    for name, _, _ in task.kinds:
        tables[name] = [0] * (ticks + 1)
        for walk in walks_from(task, name, 0, ticks):
            for moment in range(ticks + 1):
                due = [kind for kind, release in walk if release + task.deadline_of(kind) <= moment]
                amount = sum(task.cost_of(kind) for kind in due)
                tables[name][moment] = max(tables[name][moment], amount)
    return tables


def searched_demand(tasks, ticks):
    totals = [0] * (ticks + 1)
    for task in tasks:
        tables = searched_demands(task, ticks)
        for moment in range(ticks + 1):
            totals[moment] += max(table[moment] for table in tables.values())
    return totals


def small_task(chance, name="t"):
    return some_task(chance, name, most_kinds=chance.randint(1, 4), most_deadline=6, most_gap=4)


class KindDemands(DuesCase):
    def test_a_search_through_all_walks(self):
        chance = random.Random(36)
        for _ in range(120):
            task = small_task(chance)
            ticks = chance.randint(0, 7)
            told = kind_demands(task, ticks)
            self.assertEqual(told, searched_demands(task, ticks))
            self.assertEqual(list(told), [kind[0] for kind in task.kinds])

    def test_no_arrow(self):
        task = Task("t", [("b", 50, 2), ("a", 99, 4)])
        self.assertEqual(kind_demands(task, 5), {"b": [0, 0, 50, 50, 50, 50], "a": [0, 0, 0, 0, 99, 99]})

    def test_a_loop(self):
        task = Task("t", [("a", 4, 2)], [("a", "a", 3)])
        self.assertEqual(kind_demands(task, 9), {"a": [0, 0, 4, 4, 4, 8, 8, 8, 12, 12]})

    def test_kinds_that_no_cycle_reaches(self):
        task = Task("t", [("x", 1, 1), ("y", 2, 1), ("z", 3, 5)], [("x", "x", 2), ("x", "z", 1), ("y", "z", 1)])
        self.assertEqual(kind_demands(task, 7), {
            "x": [0, 1, 1, 2, 2, 3, 4, 4], "y": [0, 2, 2, 2, 2, 2, 5, 5], "z": [0, 0, 0, 0, 0, 3, 3, 3],
        })

    def test_a_later_job_that_is_due_earlier(self):
        task = Task("t", [("x", 5, 20), ("y", 7, 1)], [("x", "y", 3)])
        self.assertEqual(kind_demands(task, 20)["x"], [0] * 4 + [7] * 16 + [12])

    def test_the_better_follower(self):
        task = Task("t", [("x", 1, 1), ("y", 9, 2), ("z", 3, 1)], [("x", "y", 3), ("x", "z", 2)])
        self.assertEqual(kind_demands(task, 6)["x"], [0, 1, 1, 4, 4, 10, 10])

    def test_edges_of_ticks(self):
        self.assertEqual(kind_demands(PUMP, 0), {"a": [0], "b": [0], "c": [0]})
        self.assertEqual(kind_demands(LOOP, 3000), {"a": list(range(3001))})
        told = kind_demands(PUMP, 3000)
        self.assertEqual([len(table) for table in told.values()], [3001] * 3)
        self.assertEqual([table[3000] for table in told.values()], [1500, 1498, 9])

    def test_the_order_of_the_keys(self):
        for names in ("ab", "ba", "bdca"):
            task = Task("t", [(name, 1, 1) for name in names], [("b", "a", 1)])
            self.assertEqual("".join(kind_demands(task, 3)), names)

    def test_what_is_returned_is_new(self):
        told = kind_demands(PUMP, 9)
        kept = {kind: list(table) for kind, table in told.items()}
        told["a"].append(99)
        told["b"][0] = 99
        del told["c"]
        self.assertEqual(kind_demands(PUMP, 9), kept)
        self.assertEqual({type(table) for table in kept.values()}, {list})


class Demand(DuesCase):
    def test_a_search_through_all_walks(self):
        chance = random.Random(37)
        for _ in range(60):
            tasks = [small_task(chance) for _ in range(chance.randint(0, 4))]
            tasks += tasks[:chance.randint(0, 2)]
            ticks = chance.randint(0, 6)
            self.assertEqual(demand(tasks, ticks), searched_demand(tasks, ticks))

    def test_no_tasks(self):
        for ticks in (0, 1, 3000):
            self.assertEqual(demand([], ticks), [0] * (ticks + 1))

    def test_one_task_twice(self):
        once = demand([PUMP], 30)
        self.assertEqual(demand([PUMP, PUMP], 30), [2 * amount for amount in once])
        self.assertEqual(demand([PUMP, SINGLE, PUMP], 30), [
            2 * amount + more for amount, more in zip(once, demand([SINGLE], 30))
        ])

    def test_the_greatest_kind_at_each_moment(self):
        task = Task("t", [("a", 3, 5), ("b", 1, 1), ("c", 9, 7)])
        self.assertEqual(demand([task], 8), [0, 1, 1, 1, 1, 3, 3, 9, 9])

    def test_edges_of_ticks(self):
        self.assertEqual(demand([PUMP, LOOP], 0), [0])
        self.assertEqual(demand([LOOP], 3000), list(range(3001)))
        self.assertEqual(demand([SINGLE], 3000), [0] * 5 + [2] * 2996)

    def test_many_tasks(self):
        singles = [Task.single("s", 1 + place % 99, 1 + place % 50) for place in range(116)]
        told = demand(singles + [LOOP] * 4, 200)
        for moment in (0, 1, 7, 49, 50, 200):
            wanted = sum(task.kinds[0][1] for task in singles if task.kinds[0][2] <= moment) + 4 * moment
            self.assertEqual(told[moment], wanted)

    def test_what_is_passed_and_returned(self):
        tasks = [PUMP, SINGLE]
        told = demand(tasks, 9)
        self.assertEqual(tasks, [PUMP, SINGLE])
        kept = list(told)
        told[3] = 99
        tasks.append(LOOP)
        self.assertEqual(demand([PUMP, SINGLE], 9), kept)

    def test_the_demand_of_intervals_of_runs(self):
        chance = random.Random(38)
        for _ in range(80):
            grain = chance.choice([1, 2, 7])
            tasks = [some_task(chance, most_gap=4, most_deadline=6) for _ in range(3)]
            run = Run(tasks, [some_walk(chance, task, 5, grain) for task in tasks], grain=grain)
            bounds = demand(tasks, max([job[5] for job in run.jobs], default=0) // grain)
            for begin, end, amount in interval_demands(run):
                self.assertLessEqual(amount, grain * bounds[(end - begin) // grain])


class HeavyWalk(DuesCase):
    def check(self, task, ticks):
        walk = heavy_walk(task, ticks)
        wanted = demand([task], ticks)[ticks]
        self.assertEqual(walk_demand(task, walk, ticks), wanted)
        self.assertLessEqual(len(walk), ticks)
        self.assertIs(type(walk), list)
        self.assertEqual({type(job) for job in walk} | {tuple}, {tuple})
        if wanted == 0:
            self.assertEqual(walk, [])
        else:
            self.assertEqual(walk[0][1], 0)
            self.assert_legal(task, walk)

    def assert_legal(self, task, walk):
        self.assertEqual({type(release) for _, release in walk}, {int})
        for (before, begin), (kind, release) in zip(walk, walk[1:]):
            self.assertLessEqual(begin + dict(task.followers(before))[kind], release)

    def test_many_tasks(self):
        chance = random.Random(39)
        for _ in range(150):
            task = some_task(chance, most_gap=chance.choice([2, 5, 12]), most_deadline=chance.choice([3, 24]))
            for ticks in (0, 1, 2, 5, 9, 23, 24, 25, 59, 60):
                self.check(task, ticks)

    def test_no_demand(self):
        self.assertEqual([heavy_walk(task, 0) for task in (PUMP, SINGLE, LOOP)], [[], [], []])
        self.assertEqual([heavy_walk(PUMP, 1), heavy_walk(SINGLE, 4), heavy_walk(LOOP, 1)], [[], [], [("a", 0)]])

    def test_known_walks(self):
        self.assertEqual(heavy_walk(SINGLE, 60), [("job", 0)])
        self.assertEqual(heavy_walk(LOOP, 60), [("a", moment) for moment in range(60)])
        task = Task("t", [("x", 1, 24), ("y", 7, 1)], [("x", "y", 3)])
        self.assertEqual(heavy_walk(task, 24), [("x", 0), ("y", 3)])
        self.assertEqual(heavy_walk(task, 2), [("y", 0)])

    def test_a_job_on_the_way_that_is_due_too_late(self):
        task = Task("t", [("x", 1, 24), ("y", 7, 1)], [("x", "y", 1), ("y", "x", 1)])
        self.assertEqual(walk_demand(task, heavy_walk(task, 3), 3), 14)


class WalkDemand(DuesCase):
    def refuse(self, wanted, values, walk, ticks=60, task=PUMP):
        kept = list(walk)
        self.assert_error(wanted, values, walk_demand, task, walk, ticks)
        self.assertEqual(walk, kept)

    def test_jobs_that_are_due(self):
        walk = [("a", 4), ("b", 6), ("a", 15), ("a", 27)]
        # Due at 7, 8, 18 and 30.
        told = [walk_demand(PUMP, walk, ticks) for ticks in (0, 6, 7, 8, 17, 18, 29, 30, HUGE)]
        self.assertEqual(told, [0, 0, 2, 3, 3, 5, 5, 7, 7])

    def test_a_first_release_above_0(self):
        self.assertEqual(walk_demand(PUMP, [("c", HUGE)], HUGE + 24), 9)
        self.assertEqual(walk_demand(PUMP, [("c", HUGE)], HUGE + 23), 0)
        self.assertEqual(walk_demand(PUMP, [("c", 1)], 25), 9)

    def test_the_empty_walk(self):
        for ticks in (0, 9, -1, -HUGE, HUGE):
            self.assertEqual(walk_demand(PUMP, [], ticks), 0)

    def test_ticks_below_0(self):
        self.assertEqual(walk_demand(PUMP, [("a", 0), ("b", 2)], -1), 0)
        self.refuse(BadRelease, (0, 0), [("a", -5)], ticks=-1)

    def test_a_later_job_that_is_due_earlier(self):
        task = Task("t", [("x", 5, 20), ("y", 7, 1)], [("x", "y", 3)])
        told = [walk_demand(task, [("x", 0), ("y", 3)], ticks) for ticks in (3, 4, 19, 20)]
        self.assertEqual(told, [0, 7, 7, 12])

    def test_long_walks(self):
        walk = [("a", moment) for moment in range(1000)]
        self.assertEqual(walk_demand(LOOP, walk, 500), 500)

    def test_unknown_kind(self):
        for kind in ("", "d", "A", "pump", "a "):
            self.refuse(UnknownKind, (kind,), [(kind, 0)])
            self.refuse(UnknownKind, (kind,), [("a", 0), (kind, 9)])

    def test_release(self):
        for release in (-1, -HUGE):
            self.refuse(BadRelease, (0, 0), [("a", release)])
            self.refuse(BadRelease, (0, 1), [("a", 0), ("b", release)])
        self.assertEqual(walk_demand(PUMP, [("a", 0)], 3), 2)

    def test_no_arrow(self):
        self.refuse(NoArrow, (0, 1), [("b", 0), ("b", 50)])
        self.refuse(NoArrow, (0, 1), [("c", 0), ("a", 50)])
        self.refuse(NoArrow, (0, 2), [("a", 0), ("b", 2), ("c", 50)])
        self.refuse(NoArrow, (0, 1), [("job", 0), ("job", 50)], task=SINGLE)

    def test_gap(self):
        for first, second, gap in PUMP.arrows:
            cost = PUMP.cost_of(first) + PUMP.cost_of(second)
            for begin in (0, 7):
                for wait in (0, 1, 9):
                    walk = [(first, begin), (second, begin + gap + wait)]
                    self.assertEqual(walk_demand(PUMP, walk, 60), cost)
                for release in (begin + gap - 1, begin, 0):
                    self.refuse(GapTooShort, (0, 1), [(first, begin), (second, release)])
        self.refuse(GapTooShort, (0, 2), [("a", 0), ("b", 2), ("a", 5)])

    def test_order(self):
        self.refuse(UnknownKind, ("z",), [("b", 5), ("z", -1)])
        self.refuse(BadRelease, (0, 1), [("b", 5), ("b", -1)])
        self.refuse(BadRelease, (0, 1), [("b", 5), ("a", -1)])
        self.refuse(NoArrow, (0, 1), [("b", 5), ("b", 0)])
        self.refuse(GapTooShort, (0, 1), [("b", 5), ("a", 8), ("z", -1)])
        self.refuse(NoArrow, (0, 1), [("b", 5), ("b", 8), ("z", -1)])
        self.refuse(BadRelease, (0, 0), [("b", -1), ("z", 8)])


class HeavyRun(DuesCase):
    def test_the_demand_and_full_costs(self):
        chance = random.Random(41)
        for _ in range(40):
            tasks = [some_task(chance, most_gap=chance.choice([3, 12])) for _ in range(chance.randint(0, 4))]
            tasks += tasks[:1]
            for ticks in (0, 1, 9, 30, 60):
                self.check(tasks, ticks)

    def check(self, tasks, ticks):
        run = heavy_run(tasks, ticks)
        self.assertIs(type(run), Run)
        self.assertEqual(run.grain, 1)
        self.assertEqual(sum(job[4] for job in run.jobs if job[5] <= ticks), demand(tasks, ticks)[ticks])
        for number, task in enumerate(tasks):
            jobs = [job for job in run.jobs if job[0] == number]
            self.assertEqual([job[4] for job in jobs], [task.cost_of(job[2]) for job in jobs])
            self.assertLessEqual(len(jobs), ticks)
            self.assertEqual([job[3] for job in jobs[:1]], [0] * min(1, len(jobs)))
            own = sum(job[4] for job in jobs if job[5] <= ticks)
            self.assertEqual(own, demand([task], ticks)[ticks])
            self.assertTrue(own > 0 or jobs == [])

    def test_no_tasks(self):
        self.assertEqual(heavy_run([], 60).jobs, [])

    def test_the_greatest_list(self):
        run = heavy_run([LOOP] * 4 + [SINGLE] * 116, 60)
        self.assertEqual(len(run.jobs), 356)

    def test_what_is_passed(self):
        tasks = [LOOP, SINGLE]
        heavy_run(tasks, 9)
        self.assertEqual(tasks, [LOOP, SINGLE])


if __name__ == "__main__":
    unittest.main()
