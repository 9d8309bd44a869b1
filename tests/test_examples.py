"""The examples of the document, with just their answers and errors."""

import unittest

from helper import DuesCase
from walkdues.errors import BadLine, OutOfRange
from walkdues.tasks import Task
from walkdues.texts import read_tasks, write_tasks


class TaskExamples(DuesCase):
    def test_pump(self):
        pump = Task("pump", [("a", 2, 3), ("b", 1, 2)], [("a", "b", 2), ("b", "a", 4)])
        told = [pump.followers("b"), pump.deadline_of("a"), Task.single("s", 2, 50).kinds]
        self.assertEqual(told, [[("a", 4)], 3, [("job", 2, 50)]])

    def test_cost_above_its_range(self):
        self.assert_error(OutOfRange, ("cost", 10), Task, "pump", [("a", 10, 3)], [("a", "b", 2)])

    def test_read_and_write(self):
        tasks = read_tasks("task p\nkind a 2 3\narrow a a 4\ntask q\nkind b 40 50\n")
        told = [tasks[0].arrows, tasks[1].kinds, write_tasks(tasks[:1])]
        self.assertEqual(told, [[("a", "a", 4)], [("b", 40, 50)], "task p\nkind a 2 3\narrow a a 4\n"])

    def test_leading_zero(self):
        self.assert_error(BadLine, (2,), read_tasks, "task p\nkind a 02 3\n")


if __name__ == "__main__":
    unittest.main()
