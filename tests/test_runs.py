"""Points 21 to 23: runs, their jobs, and what they do not allow."""

import random
import unittest

from helper import DuesCase, some_task, some_walk
from walkdues.errors import BadCost, BadRelease, GapTooShort, NoArrow, OutOfRange, UnknownKind, WrongCount
from walkdues.runs import Run
from walkdues.tasks import Task

PUMP = Task("pump", [("a", 2, 3), ("b", 1, 2), ("c", 9, 24)], [("a", "b", 2), ("b", "a", 4), ("a", "a", 12)])
SINGLE = Task.single("s", 2, 50)
LOOP = Task("loop", [("a", 1, 1)], [("a", "a", 1)])
HUGE = 10 ** 40


def jobs_of(tasks, walks, grain):
    """The jobs as the document says it."""
    jobs = []
    for number in range(len(tasks)):
        for place in range(len(walks[number])):
            kind, release, cost = walks[number][place]
            due = release + grain * tasks[number].deadline_of(kind)
            jobs.append((number, place, kind, release, cost, due))
    jobs.sort(key=lambda job: job[1])
    jobs.sort(key=lambda job: job[0])
    jobs.sort(key=lambda job: job[3])
    return jobs


def make(walk, grain=1, task=PUMP):
    """The run of one task with this walk."""
    return Run([task], [walk], grain=grain)


def loop_walk(jobs, begin=0):
    return [("a", begin + place, 1) for place in range(jobs)]


class Jobs(DuesCase):
    def test_due_moments_for_each_grain(self):
        for grain in range(1, 61):
            walk = [("a", 1, 2 * grain), ("b", 1 + 2 * grain, 1), ("a", 7 + 6 * grain, grain), ("a", 7 + 18 * grain, 1)]
            run = make(walk, grain)
            self.assertEqual(run.grain, grain)
            self.assertEqual(run.jobs, [
                (0, 0, "a", 1, 2 * grain, 1 + 3 * grain),
                (0, 1, "b", 1 + 2 * grain, 1, 1 + 4 * grain),
                (0, 2, "a", 7 + 6 * grain, grain, 7 + 9 * grain),
                (0, 3, "a", 7 + 18 * grain, 1, 7 + 21 * grain),
            ])

    def test_without_grain(self):
        run = Run([PUMP], [[("c", 4, 9)]])
        self.assertEqual([run.grain, run.jobs], [1, [(0, 0, "c", 4, 9, 28)]])

    def test_order(self):
        tasks = [PUMP, SINGLE, LOOP, LOOP]
        walks = [[("b", 3, 1), ("a", 7, 2)], [("job", 3, 1)], [("a", 2, 1), ("a", 3, 1), ("a", 7, 1)], [("a", 3, 1)]]
        order = [job[:4] for job in Run(tasks, walks).jobs]
        self.assertEqual(order, [
            (2, 0, "a", 2), (0, 0, "b", 3), (1, 0, "job", 3), (2, 1, "a", 3), (3, 0, "a", 3), (0, 1, "a", 7),
            (2, 2, "a", 7),
        ])

    def test_not_by_due_moment(self):
        tasks = [Task.single("p", 1, 99), Task.single("q", 1, 1), Task("r", [("x", 1, 24), ("y", 1, 1)], [("x", "y", 1)])]
        run = Run(tasks, [[("job", 5, 1)], [("job", 5, 1)], [("x", 4, 1), ("y", 5, 1)]])
        self.assertEqual([job[0] for job in run.jobs], [2, 0, 1, 2])
        self.assertEqual([job[5] for job in run.jobs], [28, 104, 6, 6])

    def test_many_runs(self):
        chance = random.Random(21)
        for _ in range(200):
            grain = chance.choice([1, 1, 2, 7, 60])
            tasks = [some_task(chance) for _ in range(chance.randint(0, 5))]
            tasks += tasks[:chance.randint(0, 2)]
            walks = [some_walk(chance, task, 6, grain) for task in tasks]
            run = Run(tasks, walks, grain=grain)
            self.assertEqual(run.jobs, jobs_of(tasks, walks, grain))

    def test_no_tasks_and_empty_walks(self):
        self.assertEqual(Run([], []).jobs, [])
        self.assertEqual(Run([], [], grain=60).grain, 60)
        self.assertEqual(Run([PUMP, SINGLE], [[], []]).jobs, [])
        self.assertEqual(Run([PUMP, SINGLE], [[], [("job", 0, 1)]]).jobs, [(1, 0, "job", 0, 1, 50)])

    def test_one_task_at_two_places(self):
        run = Run([LOOP, LOOP], [[("a", 0, 1), ("a", 1, 1)], [("a", 0, 1)]])
        self.assertEqual(run.jobs, [(0, 0, "a", 0, 1, 1), (1, 0, "a", 0, 1, 1), (0, 1, "a", 1, 1, 2)])

    def test_moments_of_any_size(self):
        run = make([("a", HUGE, 2), ("b", 3 * HUGE, 1)])
        self.assertEqual(run.jobs, [(0, 0, "a", HUGE, 2, HUGE + 3), (0, 1, "b", 3 * HUGE, 1, 3 * HUGE + 2)])

    def test_kinds_of_values(self):
        run = Run(tasks=[LOOP], walks=[loop_walk(2)], grain=1)
        self.assertIs(type(run.jobs), list)
        self.assertEqual({type(job) for job in run.jobs}, {tuple})
        self.assertIsInstance(vars(Run)["jobs"], property)
        with self.assertRaises(TypeError):
            Run([LOOP], [[]], 2)

    def test_arguments_changed_afterwards(self):
        tasks, walks = [LOOP, SINGLE], [loop_walk(2), [("job", 1, 1)]]
        kept_tasks, kept_walks = list(tasks), [list(walk) for walk in walks]
        run = Run(tasks, walks)
        jobs = run.jobs
        self.assertEqual([tasks, walks], [kept_tasks, kept_walks])
        walks[0].append(("a", 9, 1))
        walks[1][0] = ("job", 8, 2)
        walks.append([])
        del tasks[0]
        self.assertEqual(run.jobs, jobs)

    def test_a_new_list_at_each_call(self):
        run = make(loop_walk(3), task=LOOP)
        jobs = run.jobs
        jobs.reverse()
        jobs.append(None)
        self.assertEqual(run.jobs, [(0, place, "a", place, 1, place + 1) for place in range(3)])
        self.assertIsNot(run.jobs, run.jobs)


class Refused(DuesCase):
    def refuse(self, wanted, values, walk, grain=1, task=PUMP):
        self.assert_error(wanted, values, make, walk, grain, task)

    def test_grain(self):
        for grain in (0, 61, -1, -60, 62, HUGE, -HUGE):
            self.assert_error(OutOfRange, ("grain", grain), Run, [SINGLE], [[("job", 0, 1)]], grain=grain)
        for grain in (1, 2, 59, 60):
            self.assertEqual(Run([SINGLE], [[("job", 0, 1)]], grain=grain).grain, grain)

    def test_count_of_walks(self):
        for tasks, walks in (([SINGLE], []), ([], [[]]), ([SINGLE] * 2, [[]]), ([SINGLE] * 2, [[]] * 3)):
            self.assert_error(WrongCount, ("walks", len(walks)), Run, tasks, walks)

    def test_count_of_jobs(self):
        self.assertEqual(len(make(loop_walk(400), task=LOOP).jobs), 400)
        self.assertEqual(len(Run([LOOP] * 2, [loop_walk(200)] * 2).jobs), 400)
        self.refuse(WrongCount, ("jobs", 401), loop_walk(401), task=LOOP)
        self.assert_error(WrongCount, ("jobs", 401), Run, [LOOP] * 2, [loop_walk(200), loop_walk(201)])
        self.assert_error(WrongCount, ("jobs", 900), Run, [LOOP] * 3, [loop_walk(300)] * 3)
        self.assertEqual(len(Run([SINGLE] * 401, [[]] * 401).jobs), 0)

    def test_unknown_kind(self):
        for kind in ("", "d", "A", "aa", "pump", "job", "a "):
            self.refuse(UnknownKind, (kind,), [(kind, 0, 1)])
        self.assert_error(UnknownKind, ("a",), Run, [PUMP, SINGLE], [[("a", 0, 1)], [("a", 0, 1)]])

    def test_cost(self):
        for grain in (1, 2, 60):
            for cost in (0, -1, -HUGE, 2 * grain + 1, HUGE):
                self.refuse(BadCost, (0, 0), [("a", 0, cost)], grain)
            for cost in (1, 2 * grain):
                self.assertEqual(make([("a", 0, cost)], grain).jobs[0][4], cost)
        self.refuse(BadCost, (0, 1), [("a", 0, 2), ("b", 2, 2)])
        self.assert_error(BadCost, (2, 0), Run, [PUMP, SINGLE, LOOP], [[("a", 0, 2)], [], [("a", 0, 2)]])

    def test_release(self):
        for grain in (1, 3):
            for release in (-1, -2, -HUGE):
                self.refuse(BadRelease, (0, 0), [("a", release, 1)], grain)
            self.assertEqual(make([("a", 0, 1)], grain).jobs[0][3], 0)
        self.refuse(BadRelease, (0, 1), [("a", 0, 1), ("b", -1, 1)])
        self.assert_error(BadRelease, (1, 0), Run, [LOOP, LOOP], [loop_walk(2), loop_walk(2, -1)])

    def test_no_arrow(self):
        self.refuse(NoArrow, (0, 1), [("b", 0, 1), ("b", 90, 1)])
        self.refuse(NoArrow, (0, 1), [("a", 0, 1), ("c", 90, 1)])
        self.refuse(NoArrow, (0, 1), [("c", 0, 1), ("a", 90, 1)])
        self.refuse(NoArrow, (0, 1), [("job", 0, 1), ("job", 90, 1)], task=SINGLE)
        self.refuse(NoArrow, (0, 2), [("a", 0, 1), ("b", 2, 1), ("b", 90, 1)])
        one_way = Task("t", [("a", 1, 1), ("b", 1, 1)], [("a", "b", 1)])
        self.assertEqual(len(make([("a", 0, 1), ("b", 1, 1)], task=one_way).jobs), 2)
        self.refuse(NoArrow, (0, 1), [("b", 0, 1), ("a", 90, 1)], task=one_way)

    def test_gap(self):
        for grain in (1, 2, 60):
            for first, second, gap in PUMP.arrows:
                begin = 11
                kept, short = begin + grain * gap, begin + grain * gap - 1
                self.assertEqual(make([(first, begin, 1), (second, kept, 1)], grain).jobs[1][3], kept)
                self.assertEqual(make([(first, begin, 1), (second, kept + 1, 1)], grain).jobs[1][3], kept + 1)
                for release in (short, begin, begin - 1, 0):
                    self.refuse(GapTooShort, (0, 1), [(first, begin, 1), (second, release, 1)], grain)
        self.refuse(GapTooShort, (0, 2), [("a", 0, 1), ("b", 2, 1), ("a", 5, 1)])
        self.assert_error(GapTooShort, (1, 1), Run, [LOOP, LOOP], [loop_walk(2), [("a", 4, 1), ("a", 4, 1)]])

    def test_gap_of_the_very_arrow(self):
        task = Task("t", [("a", 1, 1), ("b", 1, 1)], [("a", "b", 2), ("a", "a", 5), ("b", "a", 7), ("b", "b", 3)])
        for first, second, gap in task.arrows:
            self.assertEqual(len(make([(first, 0, 1), (second, gap, 1)], task=task).jobs), 2)
            self.refuse(GapTooShort, (0, 1), [(first, 0, 1), (second, gap - 1, 1)], task=task)


class Order(DuesCase):
    def test_the_first_three_errors(self):
        bad = [("z", -1, 0)]
        many = bad * 401
        self.assert_error(OutOfRange, ("grain", 0), Run, [PUMP], [many, many], grain=0)
        self.assert_error(OutOfRange, ("grain", 61), Run, [PUMP], [bad], grain=61)
        self.assert_error(WrongCount, ("walks", 2), Run, [PUMP], [many, many])
        self.assert_error(WrongCount, ("walks", 2), Run, [PUMP], [bad, bad])
        self.assert_error(WrongCount, ("jobs", 401), Run, [PUMP], [many])
        self.assert_error(WrongCount, ("jobs", 402), Run, [PUMP, PUMP], [bad, many])

    def test_within_a_job(self):
        before = ("b", 5, 1)
        faults = [
            (UnknownKind, ("z",), ("z", -1, 0)), (BadCost, (0, 1), ("b", -1, 0)), (BadCost, (0, 1), ("b", -1, 2)),
            (BadCost, (0, 1), ("a", 6, 0)), (BadRelease, (0, 1), ("b", -1, 1)), (BadRelease, (0, 1), ("a", -1, 1)),
            (NoArrow, (0, 1), ("b", 5, 1)), (NoArrow, (0, 1), ("c", 0, 9)), (GapTooShort, (0, 1), ("a", 8, 1)),
        ]
        for wanted, values, job in faults:
            with self.subTest(f"{job}"):
                self.assert_error(wanted, values, make, [before, job])

    def test_between_the_jobs_of_a_walk(self):
        last = [("a", 0, 2), ("b", 1, 1), ("z", -1, 0)]
        self.assert_error(GapTooShort, (0, 1), make, last)
        self.assert_error(NoArrow, (0, 1), make, [("a", 0, 2), ("c", 1, 1), ("z", -1, 0)])
        self.assert_error(BadRelease, (0, 0), make, [("a", -1, 2), ("b", 1, 1), ("z", -1, 0)])
        self.assert_error(BadCost, (0, 0), make, [("a", -1, 3), ("b", 1, 1), ("z", -1, 0)])

    def test_between_walks(self):
        late = [("a", 0, 2), ("b", 1, 1)]
        unknown = [("z", -1, 0)]
        self.assert_error(GapTooShort, (0, 1), Run, [PUMP, PUMP], [late, unknown])
        self.assert_error(UnknownKind, ("z",), Run, [PUMP, PUMP], [unknown, late])
        self.assert_error(GapTooShort, (1, 1), Run, [PUMP] * 4, [[], late, unknown, late])

    def test_walks_without_a_fault(self):
        chance = random.Random(22)
        for _ in range(200):
            grain = chance.choice([1, 2, 60])
            task = some_task(chance)
            walk = some_walk(chance, task, 400, grain)
            self.assertEqual(len(Run([task], [walk], grain=grain).jobs), len(walk))


if __name__ == "__main__":
    unittest.main()
