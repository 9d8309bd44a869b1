"""The layout of the package: the interface stands in its files, and the files keep their bounds."""

import ast
import inspect
import pathlib
import unittest

import walkdues
from helper import ERRORS
from walkdues.backlog import first_come, greatest_backlog, greatest_response, piling_run, request_row, unfinished
from walkdues.closed import closing, closing_holds, demand_row, task_row
from walkdues.company import compare, compare_speeds, fits, fits_job, greatest_cost
from walkdues.cycles import (
    common_period, critical_cycles, heights, rate, simple_cycles, utilization, utilization_holds,
)
from walkdues.demand import demand, heavy_run, heavy_walk, kind_demands, walk_demand
from walkdues.desk import Desk
from walkdues.intervals import heaviest_interval, interval_demands
from walkdues.limits import greatest_cost_of, least_deadline_of, least_gap_of, least_switch, succession
from walkdues.rows import Row, first_below
from walkdues.runs import Run
from walkdues.schedules import earliest_deadline, job_lateness, run_by, worst_lateness
from walkdues.service import calendar_row, calendar_slices, worst_begin
from walkdues.tasks import Task
from walkdues.texts import read_tasks, write_tasks
from walkdues.tries import answering_set, certain_answer, open_sets
from walkdues.verdicts import first_excess, greatest_lateness, least_speed, never_late, slack_row

FOLDER = pathlib.Path(walkdues.__file__).parent

# What the interface lists under each file; for a class its methods and properties.
INTERFACE = {
    "errors": {"DuesError": (), **{name: () for name in ERRORS}},
    "tasks": {"Task": ("__init__", "kinds", "arrows", "cost_of", "deadline_of", "followers", "single")},
    "texts": {"read_tasks": (), "write_tasks": ()},
    "runs": {"Run": ("__init__", "jobs")},
    "schedules": {"run_by": (), "earliest_deadline": (), "job_lateness": (), "worst_lateness": ()},
    "intervals": {"interval_demands": (), "heaviest_interval": ()},
    "demand": {"kind_demands": (), "demand": (), "heavy_walk": (), "walk_demand": (), "heavy_run": ()},
    "cycles": {
        "simple_cycles": (), "critical_cycles": (), "rate": (), "utilization": (), "common_period": (), "heights": (),
        "utilization_holds": (),
    },
    "rows": {
        "Row": (
            "__init__", "__call__", "__eq__", "__contains__", "__add__", "head", "minus", "covers", "lowest_ahead",
            "steady", "step",
        ),
        "first_below": (),
    },
    "closed": {"closing_holds": (), "closing": (), "task_row": (), "demand_row": ()},
    "service": {"calendar_row": (), "worst_begin": (), "calendar_slices": ()},
    "verdicts": {"first_excess": (), "never_late": (), "slack_row": (), "greatest_lateness": (), "least_speed": ()},
    "company": {"fits": (), "fits_job": (), "greatest_cost": (), "compare": (), "compare_speeds": ()},
    "limits": {
        "greatest_cost_of": (), "least_deadline_of": (), "least_gap_of": (), "succession": (), "least_switch": (),
    },
    "tries": {"answering_set": (), "certain_answer": (), "open_sets": ()},
    "desk": {"Desk": ("__init__", "names", "log", "admit", "leave", "admit_all", "undo", "slack", "room")},
    "backlog": {
        "request_row": (), "piling_run": (), "unfinished": (), "greatest_backlog": (), "first_come": (),
        "greatest_response": (),
    },
}
SIGNATURES = {
    Task: "(name, kinds, arrows=())",
    Task.cost_of: "(self, kind)",
    Task.deadline_of: "(self, kind)",
    Task.followers: "(self, kind)",
    Task.single: "(name, cost, deadline)",
    read_tasks: "(text)",
    write_tasks: "(tasks)",
    Run: "(tasks, walks, *, grain=1)",
    run_by: "(run, key, *, speed=1)",
    earliest_deadline: "(run, *, speed=1)",
    job_lateness: "(run, schedule, *, speed=1)",
    worst_lateness: "(run, schedule, *, speed=1)",
    interval_demands: "(run)",
    heaviest_interval: "(run, *, speed=1)",
    kind_demands: "(task, ticks)",
    demand: "(tasks, ticks)",
    heavy_walk: "(task, ticks)",
    walk_demand: "(task, walk, ticks)",
    heavy_run: "(tasks, ticks)",
    simple_cycles: "(task)",
    critical_cycles: "(task)",
    rate: "(task, kind)",
    utilization: "(tasks)",
    common_period: "(tasks)",
    heights: "(task)",
    utilization_holds: "(task, ratio, cycle, levels)",
    Row: "(head, period, gain)",
    Row.__call__: "(self, index)",
    Row.minus: "(self, other)",
    Row.covers: "(self, other)",
    Row.lowest_ahead: "(self)",
    Row.steady: "(slope)",
    Row.step: "(cost, deadline)",
    first_below: "(row, other)",
    closing_holds: "(task, start, period, gains)",
    closing: "(task)",
    task_row: "(task)",
    demand_row: "(tasks)",
    calendar_row: "(calendar, *, speed=1)",
    worst_begin: "(calendar, ticks)",
    calendar_slices: "(run, calendar, key, *, begin=0, speed=1)",
    first_excess: "(tasks, *, service=None)",
    never_late: "(tasks, *, service=None)",
    slack_row: "(tasks, *, service=None)",
    greatest_lateness: "(tasks, *, speed=1)",
    least_speed: "(tasks)",
    fits: "(tasks, company, *, service=None)",
    fits_job: "(tasks, cost, deadline, *, service=None)",
    greatest_cost: "(tasks, deadline, *, service=None)",
    compare: "(tasks, others, *, service=None)",
    compare_speeds: "(tasks, others)",
    greatest_cost_of: "(tasks, index, kind, *, service=None)",
    least_deadline_of: "(tasks, index, kind, *, service=None)",
    least_gap_of: "(tasks, index, first, second, *, service=None)",
    succession: "(first, second, gap)",
    least_switch: "(first, second, rest, *, service=None)",
    answering_set: "(tries, *, speed=1)",
    certain_answer: "(tries, cost, deadline, *, speed=1)",
    open_sets: "(tries, cost, deadline, *, speed=1)",
    Desk: "(*, service=None)",
    Desk.admit: "(self, task)",
    Desk.leave: "(self, name)",
    Desk.admit_all: "(self, tasks)",
    Desk.undo: "(self)",
    Desk.slack: "(self)",
    Desk.room: "(self, deadline)",
    request_row: "(tasks)",
    piling_run: "(tasks, ticks)",
    unfinished: "(run, schedule, *, speed=1)",
    greatest_backlog: "(tasks, *, speed=1)",
    first_come: "(run, *, speed=1)",
    greatest_response: "(run, schedule, *, speed=1)",
}
PROPERTIES = [(Task, "kinds"), (Task, "arrows"), (Run, "jobs"), (Row, "head"), (Desk, "names"), (Desk, "log")]
# The modules with nothing of the interface.
INNER = {"__init__", "leftover"}
# What LANGUAGE.md does not allow anywhere, or what the package has no need of.
BARRED = (
    ast.Global, ast.AsyncFunctionDef, ast.GeneratorExp, ast.Try, ast.With, ast.Match, ast.AnnAssign, ast.Set,
    ast.Nonlocal, ast.Await, ast.JoinedStr,
)
LIBRARY = {"heapq", "math", "itertools", "__future__"}
# The words that stand nowhere in a file, within longer words, comments and docstrings neither.
BARRED_WORDS = ("dataclass", "overload", "contextmanager")


def files():
    return sorted(FOLDER.rglob("*.py"))


def tree_of(path):
    return ast.parse(path.read_text(encoding="ascii"))


def nodes_of(path, *kinds):
    return [node for node in ast.walk(tree_of(path)) if isinstance(node, kinds)]


class Interface(unittest.TestCase):
    def test_names_are_defined_in_their_files(self):
        for module, names in INTERFACE.items():
            defined = {
                node.name: node for node in tree_of(FOLDER / f"{module}.py").body
                if isinstance(node, (ast.ClassDef, ast.FunctionDef))
            }
            for name, methods in names.items():
                with self.subTest(f"{module}.{name}"):
                    self.assertIn(name, defined)
                    inside = {getattr(node, "name", None) for node in defined[name].body}
                    self.assertLessEqual(set(methods), inside)

    def test_signatures(self):
        for thing, signature in SIGNATURES.items():
            with self.subTest(thing.__name__):
                self.assertEqual(str(inspect.signature(thing)), signature)

    def test_properties(self):
        for owner, name in PROPERTIES:
            self.assertIsInstance(vars(owner)[name], property)


class Bounds(unittest.TestCase):
    def test_modules(self):
        found = {path.relative_to(FOLDER).as_posix() for path in files()}
        self.assertEqual(found, {f"{module}.py" for module in INNER | set(INTERFACE)})
        for path in FOLDER.rglob("*"):
            if "__pycache__" not in path.parts:
                self.assertEqual(path.suffix, ".py")

    def test_lines(self):
        for path in files():
            lines = path.read_bytes().decode("ascii").split("\n")
            self.assertLessEqual(len(lines) - 1, 399)
            for number, line in enumerate(lines, start=1):
                with self.subTest(f"{path.name}:{number}"):
                    self.assertLessEqual(len(line), 120)
                    self.assertTrue(all(" " <= mark <= "~" for mark in line))

    def test_words(self):
        for path in files():
            for number, line in enumerate(path.read_text(encoding="ascii").split("\n"), start=1):
                with self.subTest(f"{path.name}:{number}"):
                    self.assertEqual([word for word in BARRED_WORDS if word in line], [])

    def test_functions(self):
        for path in files():
            for node in nodes_of(path, ast.FunctionDef):
                with self.subTest(f"{path.name}: {node.name}"):
                    self.assertLessEqual(node.end_lineno - node.lineno + 1, 40)

    def test_statements_and_expressions(self):
        for path in files():
            # The texts of tasks and the names of an answering set are the only strings that are put together.
            joins = path.name in ("texts.py", "tries.py")
            barred = tuple(kind for kind in BARRED if not joins or kind is not ast.JoinedStr)
            self.assertEqual([node.lineno for node in nodes_of(path, *barred) if hasattr(node, "lineno")], [])
            self.assertEqual(nodes_of(path, ast.Div, ast.MatMult), [])
            for node in nodes_of(path, ast.Constant):
                self.assertNotIsInstance(node.value, (float, complex, bytes))
                self.assertNotIn("%", node.value if isinstance(node.value, str) else "")
            for node in nodes_of(path, ast.FunctionDef):
                told = [item.id for item in node.decorator_list if isinstance(item, ast.Name)]
                self.assertLessEqual(set(told), {"property", "staticmethod"})
                self.assertEqual(len(told), len(node.decorator_list))

    def test_imports(self):
        for path in files():
            self.assertEqual(nodes_of(path, ast.Import), [])
            for node in nodes_of(path, ast.ImportFrom):
                with self.subTest(f"{path.name}: {node.module}"):
                    self.assertEqual(node.level, 0)
                    self.assertTrue(node.module in LIBRARY or node.module.startswith("walkdues."))


if __name__ == "__main__":
    unittest.main()
