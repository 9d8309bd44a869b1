"""The examples of the document, with just their answers and errors."""

import unittest

from helper import DuesCase
from walkdues.backlog import first_come, greatest_backlog, greatest_response, request_row, unfinished
from walkdues.closed import closing, closing_holds, demand_row, task_row
from walkdues.company import compare, compare_speeds, fits, fits_job, greatest_cost
from walkdues.cycles import (
    common_period, critical_cycles, heights, rate, simple_cycles, utilization, utilization_holds,
)
from walkdues.demand import demand, heavy_run, heavy_walk, kind_demands, walk_demand
from walkdues.desk import Desk
from walkdues.errors import BadLine, GapTooShort, LateSet, OutOfRange, Overlap, Overloaded, Refused
from walkdues.intervals import heaviest_interval, interval_demands
from walkdues.limits import greatest_cost_of, least_deadline_of, least_gap_of, least_switch, succession
from walkdues.rows import Row, first_below
from walkdues.runs import Run
from walkdues.schedules import earliest_deadline, job_lateness, run_by, worst_lateness
from walkdues.service import calendar_row, worst_begin
from walkdues.tasks import Task
from walkdues.texts import read_tasks, write_tasks
from walkdues.tries import certain_answer
from walkdues.verdicts import first_excess, greatest_lateness, least_speed, slack_row

PUMP = Task("pump", [("a", 2, 3), ("b", 1, 2)], [("a", "b", 2), ("b", "a", 4)])


class TaskExamples(DuesCase):
    def test_pump(self):
        pump = Task("pump", [("a", 2, 3), ("b", 1, 2)], [("a", "b", 2), ("b", "a", 4)])
        told = [pump.followers("b"), pump.deadline_of("a"), Task.single("s", 2, 50).kinds]
        self.assertEqual(told, [[("a", 4)], 3, [("job", 2, 50)]])

    def test_cost_above_its_range(self):
        self.assert_error(OutOfRange, ("cost", 10), Task, "pump", [("a", 10, 3)], [("a", "b", 2)])

    def test_read_and_write(self):
        tasks = read_tasks("task p\nkind a 2 3\narrow a a 4\ntask q\nkind b 40 50\n")
        told = [tasks[0].arrows, tasks[1].kinds, write_tasks(tasks[:1])]
        self.assertEqual(told, [[("a", "a", 4)], [("b", 40, 50)], "task p\nkind a 2 3\narrow a a 4\n"])

    def test_leading_zero(self):
        self.assert_error(BadLine, (2,), read_tasks, "task p\nkind a 02 3\n")


class RunExamples(DuesCase):
    def test_jobs(self):
        task = Task("pump", [("a", 2, 3), ("b", 1, 2)], [("a", "b", 2), ("b", "a", 4)])
        jobs = Run([task], [[("a", 0, 3), ("b", 5, 2)]], grain=2).jobs
        self.assertEqual(jobs, [(0, 0, "a", 0, 3, 6), (0, 1, "b", 5, 2, 9)])

    def test_gap_too_short(self):
        tasks = [Task("t", [("a", 2, 3)], [("a", "a", 2)])]
        self.assert_error(GapTooShort, (0, 1), Run, tasks, [[("a", 0, 1), ("a", 3, 1)]], grain=2)


class ScheduleExamples(DuesCase):
    def test_schedules(self):
        tasks = [Task.single("p", 3, 9), Task.single("q", 2, 4)]
        run = Run(tasks, [[("job", 0, 3)], [("job", 1, 2)]])
        self.assertEqual(earliest_deadline(run), [(0, 1, 0), (1, 3, 1), (3, 5, 0)])
        self.assertEqual(run_by(run, lambda job: job[3], speed=2), [(0, 3, 0), (3, 5, 1)])
        told = [job_lateness(run, earliest_deadline(run)), worst_lateness(run, earliest_deadline(run))]
        self.assertEqual(told, [[-4, -2], -2])

    def test_overlap(self):
        run = Run([Task.single("p", 3, 9)], [[("job", 0, 3)]])
        self.assert_error(Overlap, (1,), job_lateness, run, [(0, 2, 0), (1, 2, 0)])


class IntervalExamples(DuesCase):
    def test_intervals(self):
        tasks = [Task.single("p", 3, 4), Task.single("q", 2, 4)]
        run = Run(tasks, [[("job", 0, 3)], [("job", 1, 2)]])
        self.assertEqual(list(interval_demands(run)), [(0, 4, 3), (0, 5, 5), (1, 5, 2)])
        self.assertEqual(heaviest_interval(run), (0, 0, 5))
        self.assertEqual(heaviest_interval(run, speed=2), (-5, 0, 4))


class DemandExamples(DuesCase):
    def test_demands(self):
        self.assertEqual(kind_demands(PUMP, 9), {
            "a": [0, 0, 0, 2, 3, 3, 3, 3, 3, 5], "b": [0, 0, 1, 1, 1, 1, 1, 3, 4, 4]
        })
        self.assertEqual(demand([PUMP, Task.single("s", 2, 5)], 9), [0, 0, 1, 2, 3, 5, 5, 5, 6, 7])
        told = [
            walk_demand(PUMP, heavy_walk(PUMP, 9), 9), heavy_walk(PUMP, 1), walk_demand(PUMP, [("a", 1), ("b", 4)], 6)
        ]
        self.assertEqual(told, [5, [], 3])
        self.assertEqual([heavy_run([PUMP], 1).jobs, heavy_run([PUMP], 4).grain], [[], 1])

    def test_gap_too_short(self):
        task = Task("p", [("a", 2, 3)], [("a", "a", 4)])
        self.assert_error(GapTooShort, (0, 1), walk_demand, task, [("a", 0), ("a", 3)], 9)


class CycleExamples(DuesCase):
    def test_cycles(self):
        task = Task("t", [("a", 3, 5), ("b", 1, 4)], [("a", "a", 6), ("a", "b", 1), ("b", "a", 3)])
        self.assertEqual(simple_cycles(task), [(("a",), 3, 6), (("a", "b"), 4, 4)])
        told = [rate(task, "b"), utilization([task, task]), critical_cycles(task), common_period([task])]
        self.assertEqual(told, [(1, 1), (2, 1), [(("a", "b"), 4, 4)], 4])
        told = [
            heights(task), utilization_holds(task, (1, 1), ("b", "a"), {"a": 2, "b": 0}),
            utilization_holds(task, (1, 1), ("a",), {"a": 2, "b": 0}),
        ]
        self.assertEqual(told, [{"a": 2, "b": 0}, True, False])


class RowExamples(DuesCase):
    def test_row(self):
        row = Row([0, 4, 3, 5, 6, 5, 7, 8], 6, 4)
        self.assertEqual([row.start, row.period, row.gain, row.head], [1, 3, 2, [0, 4, 3, 5]])
        self.assertEqual(row(1000002), 666671)
        self.assertEqual(row.lowest_ahead().head, [0, 3, 3, 5])
        self.assertEqual([first_below(Row.steady(1), row), first_below(row, Row.steady(1))], [1, 8])


class ClosedExamples(DuesCase):
    def test_closing(self):
        self.assertEqual(closing(PUMP), (7, 6, {"a": 3, "b": 3}))
        told = [
            closing_holds(PUMP, 7, 6, {"b": 3, "a": 3}), closing_holds(PUMP, 6, 6, {"a": 3, "b": 3}),
            closing_holds(PUMP, 8, 12, {"a": 6, "b": 6}),
        ]
        self.assertEqual(told, [True, False, True])
        self.assertEqual([task_row(PUMP).start, task_row(PUMP).period, task_row(PUMP)(1000001)], [0, 6, 500001])
        self.assertEqual(demand_row([PUMP, Task.single("s", 2, 5)]).head, [0, 0, 1, 2, 3, 5, 5, 5, 6, 7, 8])


class ServiceExamples(DuesCase):
    def test_calendar(self):
        row = calendar_row("1101", speed=2)
        self.assertEqual([row(1), row(2), row(3), row(4), row(5), row(6)], [0, 2, 4, 6, 6, 8])
        self.assertEqual(worst_begin("1101", 2), 1)


class VerdictExamples(DuesCase):
    def test_pump(self):
        slack = slack_row([PUMP])
        self.assertEqual([slack.head, slack.period, slack.gain], [[0, 1, 1, 1, 1, 2], 6, 3])
        self.assertEqual(first_excess([PUMP, Task.single("s", 2, 2)]), (2, 1))
        self.assertEqual(greatest_lateness([PUMP]), (-1, 2))
        self.assertEqual(least_speed([PUMP]), (3, 4))

    def test_overloaded(self):
        task = Task("t", [("a", 5, 9)], [("a", "a", 2)])
        self.assert_error(Overloaded, (5, 2), slack_row, [task], service=Row.steady(2))


class CompanyExamples(DuesCase):
    def test_pump(self):
        plain = Task("plain", [("a", 3, 4)], [("a", "a", 6)])
        told = [
            fits([PUMP], [Task.single("s", 1, 2)]), fits_job([PUMP], 2, 4), fits_job([PUMP], 2, 5),
            greatest_cost([PUMP], 8),
        ]
        self.assertEqual(told, [True, False, True, 4])
        told = [compare([PUMP], [plain]), compare([PUMP], [])]
        self.assertEqual(told, [("alike", None, None), ("less", None, (2, 2))])
        told = [
            compare_speeds([PUMP], [plain])[0], compare_speeds([], [PUMP])[0], compare_speeds([PUMP], [PUMP])
        ]
        self.assertEqual(told, ["heavier", "lighter", ("alike", None, None)])

    def test_late_set(self):
        tasks, others = [Task.single("s", 1, 1)], [Task.single("s", 2, 1)]
        self.assert_error(LateSet, (2,), compare, tasks, others)


class LimitExamples(DuesCase):
    def test_pump(self):
        told = [
            greatest_cost_of([PUMP], 0, "a"), least_deadline_of([PUMP], 0, "b"), least_gap_of([PUMP], 0, "a", "b")
        ]
        self.assertEqual(told, [3, 1, 1])

    def test_succession(self):
        drain = Task("drain", [("c", 3, 3)], [("c", "c", 5)])
        told = [
            succession(PUMP, drain, 3).arrows[3:], least_switch(PUMP, drain, []),
            least_switch(PUMP, drain, [Task.single("s", 1, 1)]),
        ]
        self.assertEqual(told, [[("a", "c", 3), ("b", "c", 3)], 2, None])


class TryExamples(DuesCase):
    def test_certain_answer(self):
        tries = [(3, 6, True), (3, 4, False)]
        told = [certain_answer(tries, 2, 5), certain_answer(tries, 3, 5), certain_answer(tries, 4, 5)]
        self.assertEqual(told, [True, None, False])


class DeskExamples(DuesCase):
    def test_desk(self):
        desk = Desk()
        desk.admit_all([Task.single("x", 1, 1), Task.single("y", 2, 5)])
        desk.leave("x")
        told = [desk.names, desk.room(5), desk.undo(), desk.names, desk.room(5)]
        self.assertEqual(told, [["y"], 3, None, ["x", "y"], 2])
        self.assertEqual(desk.log, [("admit", "x"), ("admit", "y"), ("leave", "x"), ("undo",)])

    def test_refused(self):
        desk = Desk()
        desk.admit(PUMP)
        self.assert_error(Refused, ("y", 2, 1), desk.admit_all, [Task.single("x", 1, 1), Task.single("y", 1, 2)])


class BacklogExamples(DuesCase):
    def test_requests(self):
        row = request_row([PUMP])
        self.assertEqual([row(0), row(1), row(2), row(5), row(6), row(8)], [2, 2, 3, 3, 5, 6])
        self.assertEqual([greatest_backlog([PUMP]), greatest_backlog([PUMP, PUMP])], [(2, 0), (4, 0)])

    def test_first_come(self):
        tasks = [Task.single("p", 3, 9), Task.single("q", 2, 4)]
        run = Run(tasks, [[("job", 0, 3)], [("job", 1, 2)]])
        told = [first_come(run), unfinished(run, first_come(run)), greatest_response(run, first_come(run))]
        self.assertEqual(told, [[(0, 3, 0), (3, 5, 1)], [(0, 3), (1, 4)], 4])


if __name__ == "__main__":
    unittest.main()
