"""The layout of the package: the interface stands in its files, and the files keep their bounds."""

import ast
import inspect
import pathlib
import unittest

import walkdues
from helper import ERRORS
from walkdues.intervals import heaviest_interval, interval_demands
from walkdues.runs import Run
from walkdues.schedules import earliest_deadline, job_lateness, run_by, worst_lateness
from walkdues.tasks import Task
from walkdues.texts import read_tasks, write_tasks

FOLDER = pathlib.Path(walkdues.__file__).parent

# What the interface lists under each file; for a class its methods and properties.
INTERFACE = {
    "errors": {"DuesError": (), **{name: () for name in ERRORS}},
    "tasks": {"Task": ("__init__", "kinds", "arrows", "cost_of", "deadline_of", "followers", "single")},
    "texts": {"read_tasks": (), "write_tasks": ()},
    "runs": {"Run": ("__init__", "jobs")},
    "schedules": {"run_by": (), "earliest_deadline": (), "job_lateness": (), "worst_lateness": ()},
    "intervals": {"interval_demands": (), "heaviest_interval": ()},
}
SIGNATURES = {
    Task: "(name, kinds, arrows=())",
    Task.cost_of: "(self, kind)",
    Task.deadline_of: "(self, kind)",
    Task.followers: "(self, kind)",
    Task.single: "(name, cost, deadline)",
    read_tasks: "(text)",
    write_tasks: "(tasks)",
    Run: "(tasks, walks, *, grain=1)",
    run_by: "(run, key, *, speed=1)",
    earliest_deadline: "(run, *, speed=1)",
    job_lateness: "(run, schedule, *, speed=1)",
    worst_lateness: "(run, schedule, *, speed=1)",
    interval_demands: "(run)",
    heaviest_interval: "(run, *, speed=1)",
}
PROPERTIES = [(Task, "kinds"), (Task, "arrows"), (Run, "jobs")]
LIBRARY = {"heapq", "math", "itertools", "__future__"}


def files():
    return sorted(FOLDER.rglob("*.py"))


def tree_of(path):
    return ast.parse(path.read_text(encoding="ascii"))


def nodes_of(path, *kinds):
    return [node for node in ast.walk(tree_of(path)) if isinstance(node, kinds)]


class Interface(unittest.TestCase):
    def test_names_are_defined_in_their_files(self):
        for module, names in INTERFACE.items():
            defined = {
                node.name: node for node in tree_of(FOLDER / f"{module}.py").body
                if isinstance(node, (ast.ClassDef, ast.FunctionDef))
            }
            for name, methods in names.items():
                with self.subTest(f"{module}.{name}"):
                    self.assertIn(name, defined)
                    inside = {getattr(node, "name", None) for node in defined[name].body}
                    self.assertLessEqual(set(methods), inside)

    def test_signatures(self):
        for thing, signature in SIGNATURES.items():
            with self.subTest(thing.__name__):
                self.assertEqual(str(inspect.signature(thing)), signature)

    def test_properties(self):
        for owner, name in PROPERTIES:
            self.assertIsInstance(vars(owner)[name], property)


class Bounds(unittest.TestCase):
    def test_modules(self):
        found = {path.relative_to(FOLDER).as_posix() for path in files()}
        self.assertEqual(found, {"__init__.py"} | {f"{module}.py" for module in INTERFACE})
        for path in FOLDER.rglob("*"):
            if "__pycache__" not in path.parts:
                self.assertEqual(path.suffix, ".py")

    def test_lines(self):
        for path in files():
            lines = path.read_bytes().decode("ascii").split("\n")
            self.assertLessEqual(len(lines) - 1, 399)
            for number, line in enumerate(lines, start=1):
                with self.subTest(f"{path.name}:{number}"):
                    self.assertLessEqual(len(line), 120)
                    self.assertTrue(all(" " <= mark <= "~" for mark in line))

    def test_functions(self):
        for path in files():
            for node in nodes_of(path, ast.FunctionDef):
                with self.subTest(f"{path.name}: {node.name}"):
                    self.assertLessEqual(node.end_lineno - node.lineno + 1, 40)

    def test_imports(self):
        for path in files():
            self.assertEqual(nodes_of(path, ast.Import), [])
            for node in nodes_of(path, ast.ImportFrom):
                with self.subTest(f"{path.name}: {node.module}"):
                    self.assertEqual(node.level, 0)
                    self.assertTrue(node.module in LIBRARY or node.module.startswith("walkdues."))


if __name__ == "__main__":
    unittest.main()
