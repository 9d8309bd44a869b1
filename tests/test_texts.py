"""Points 14 to 16: texts of tasks."""

import unittest

from helper import DuesCase
from walkdues.errors import BadLine, BadName, OutOfRange, Repeated, RepeatedArrow, UnknownKind, WrongCount
from walkdues.tasks import Task
from walkdues.texts import read_tasks, write_tasks

# Lines that have none of the three forms.
BAD_LINES = [
    "", " ", "  ",
    "task", "task ", " task", " task p", "task p ", "task  p", "task p q", "task p  q", "task kind a 1",
    "Task p", "TASK p", "tasks p", "tas p", "job p", "p", "p task", "taskp", "# p", "task\tp",
    "kind", "kind a", "kind a 2", "kind a 2 3 4", "kind a 2 3 ", " kind a 2 3", "kind  a 2 3", "kind a  2 3",
    "kind a 2  3", "kind  2 3", "kind a  3", "Kind a 2 3", "kinds a 2 3", "kind a b c", "kind 2 3 a", "kind a 2 b",
    "kind a b 2",
    "arrow", "arrow a", "arrow a b", "arrow a b 3 4", "arrow a b 3 ", " arrow a b 3", "arrow  a b 3", "arrow a  b 3",
    "arrow a b  3", "arrow  b 3", "arrow a  3", "Arrow a b 3", "arrows a b 3", "arrow a 3 b", "arrow 3 a b",
    "gap a b 3", "none a 2 3", "2 a 2 3",
]
# Words that are no COST, no DEADLINE and no GAP.
BAD_NUMBERS = [
    "02", "00", "01", "0000000001", "000000000", "+2", "-2", "-0", "+0", "1234567890", "1000000000", "9999999999",
    "12345678901234567890", "x", "2x", "x2", "2.0", "2.", "1e1", "0x1", "1_0", "_1", "two", "2,", "'2'", "2/1", "2:",
]
ODD_WORDS = ["A", "9", "0", "-", "task", "kind", "arrow", "~", "!", "a.b", "x" * 13, "_a", "(a,b)", "%", "\\n", '"', "02"]

GOOD = "task p\nkind a 2 3\narrow a a 4\n"


def told(tasks):
    return [(task.name, task.kinds, task.arrows) for task in tasks]


class Read(DuesCase):
    def test_no_task(self):
        self.assertEqual(read_tasks(""), [])

    def test_tasks_in_their_order(self):
        text = "task q\nkind b 40 50\nkind a 99 1\n" + GOOD + "task q\nkind b 40 50\n"
        tasks = read_tasks(text=text)
        self.assertIs(type(tasks), list)
        self.assertEqual([type(task) for task in tasks], [Task] * 3)
        self.assertEqual(told(tasks), [
            ("q", [("b", 40, 50), ("a", 99, 1)], []),
            ("p", [("a", 2, 3)], [("a", "a", 4)]),
            ("q", [("b", 40, 50)], []),
        ])

    def test_lines_of_a_task_in_any_order(self):
        text = "task p\narrow b a 12\nkind b 9 24\narrow a b 1\nkind a 1 1\narrow a a 10\n"
        kinds = [("b", 9, 24), ("a", 1, 1)]
        arrows = [("b", "a", 12), ("a", "b", 1), ("a", "a", 10)]
        self.assertEqual(told(read_tasks(text)), [("p", kinds, arrows)])

    def test_a_line_belongs_to_the_last_task_above(self):
        text = "task p\nkind a 1 1\ntask q\nkind a 2 2\nkind b 3 3\n"
        self.assertEqual(told(read_tasks(text)), [("p", [("a", 1, 1)], []), ("q", [("a", 2, 2), ("b", 3, 3)], [])])
        self.assert_error(WrongCount, ("kinds", 0), read_tasks, "task p\ntask q\nkind a 1 1\n")

    def test_words_of_the_forms_as_names(self):
        text = "task task\nkind kind 1 2\nkind arrow 3 4\narrow kind arrow 5\n"
        self.assertEqual(told(read_tasks(text)), [
            ("task", [("kind", 1, 2), ("arrow", 3, 4)], [("kind", "arrow", 5)]),
        ])

    def test_numbers_are_integers(self):
        task = read_tasks(GOOD)[0]
        numbers = [*task.kinds[0][1:], task.arrows[0][2]]
        self.assertEqual([type(number) for number in numbers], [int] * 3)


class BadLines(DuesCase):
    def assert_bad(self, line, text):
        self.assert_error(BadLine, (line,), read_tasks, text)

    def test_lines_of_no_form(self):
        for line in BAD_LINES:
            with self.subTest(repr(line)):
                self.assert_bad(1, line + "\n")
                self.assert_bad(4, GOOD + line + "\n")
                self.assert_bad(2, "task p\n" + line + "\nkind a 2 3\n")

    def test_words_that_are_no_numbers(self):
        for word in BAD_NUMBERS:
            with self.subTest(word):
                self.assert_bad(4, GOOD + f"kind b {word} 3\n")
                self.assert_bad(4, GOOD + f"kind b 2 {word}\n")
                self.assert_bad(4, GOOD + f"arrow a b {word}\n")

    def test_every_character_as_a_number(self):
        for mark in map(chr, range(33, 127)):
            if mark not in "0123456789":
                with self.subTest(mark):
                    self.assert_bad(2, f"task p\nkind a {mark} 1\n")
                    self.assert_bad(2, f"task p\nkind a 1 1{mark}\n")
                    self.assert_bad(2, f"task p\narrow a a {mark}1\n")

    def test_above_all_tasks(self):
        self.assert_bad(1, "kind a 2 3\n")
        self.assert_bad(1, "arrow a a 4\n")
        self.assert_bad(1, "kind a 2 3\n" + GOOD)
        self.assert_bad(1, "arrow a a 4\n" + GOOD)
        self.assert_bad(1, "arrow a a 4\nbad\n")

    def test_last_line_without_its_newline(self):
        self.assert_bad(1, "task p")
        self.assert_bad(1, "bad")
        self.assert_bad(1, " ")
        self.assert_bad(1, "kind a 2 3")
        self.assert_bad(2, "task p\nkind a 2 3")
        self.assert_bad(3, "task p\nkind a 2 3\narrow a a 4")
        self.assert_bad(4, GOOD + "task q")
        self.assert_bad(4, GOOD + "bad")

    def test_empty_lines(self):
        self.assert_bad(1, "\n")
        self.assert_bad(1, "\n\n")
        self.assert_bad(1, "\n" + GOOD)
        self.assert_bad(4, GOOD + "\n")
        self.assert_bad(4, GOOD + "\n" + GOOD)

    def test_the_first_bad_line(self):
        self.assert_bad(2, "task p\nbad\nworse\n")
        self.assert_bad(4, GOOD + "kind b 02 3\n\ntask q")
        self.assert_bad(2, "task p\nbad\ntask q")
        self.assert_bad(5, GOOD + "task q\nkind b x 3\narrow b b 04\n")
        self.assert_bad(1001, "task p\n" * 1000 + "bad\n" * 2)

    def test_ahead_of_every_error_of_a_task(self):
        for wrong in ("task P\n", "task p\n", "task p\nkind a 0 0\n", "task p\nkind a 1 1\narrow a b 1\n"):
            lines = wrong.count("\n")
            with self.subTest(wrong):
                self.assert_bad(lines + 1, wrong + "bad\n")
                self.assert_bad(lines + 1, wrong + "kind a 02 3\n")
                self.assert_bad(lines + 1, wrong + "task q")
                self.assert_bad(lines + 4, wrong + GOOD + "\n")


class ErrorsOfTasks(DuesCase):
    def test_the_first_task_that_has_one(self):
        self.assert_error(BadName, ("P",), read_tasks, "task P\ntask q\nkind a 0 0\n")
        self.assert_error(WrongCount, ("kinds", 0), read_tasks, "task p\ntask Q\nkind a 0 0\n")
        self.assert_error(OutOfRange, ("deadline", 100), read_tasks, GOOD + "task q\nkind a 1 100\ntask Q\n")
        self.assert_error(Repeated, ("a",), read_tasks, GOOD + "task q\nkind a 1 1\nkind a 1 1\ntask p\n")
        self.assert_error(UnknownKind, ("b",), read_tasks, "task p\narrow a b 1\nkind a 1 1\ntask p\nkind a 0 0\n")
        self.assert_error(RepeatedArrow, ("a", "a"), read_tasks, GOOD + "arrow a a 5\ntask q\n")

    def test_kinds_before_arrows_in_any_order_of_lines(self):
        self.assert_error(OutOfRange, ("cost", 10), read_tasks, "task p\narrow x y 0\nkind a 10 1\n")
        self.assert_error(WrongCount, ("arrows", 13), read_tasks, "task p\n" + "arrow a a 1\n" * 13 + "kind A 0 0\n")

    def test_zero_is_a_number(self):
        self.assert_error(OutOfRange, ("cost", 0), read_tasks, "task p\nkind a 0 3\n")
        self.assert_error(OutOfRange, ("deadline", 0), read_tasks, "task p\nkind a 2 0\n")
        self.assert_error(OutOfRange, ("gap", 0), read_tasks, "task p\nkind a 2 3\narrow a a 0\n")

    def test_nine_digits(self):
        for word in ("999999999", "100000000", "123456789"):
            self.assert_error(OutOfRange, ("cost", int(word)), read_tasks, f"task p\nkind a {word} 3\n")
            self.assert_error(OutOfRange, ("deadline", int(word)), read_tasks, f"task p\nkind a 2 {word}\n")
            self.assert_error(OutOfRange, ("gap", int(word)), read_tasks, f"task p\nkind a 2 3\narrow a a {word}\n")

    def test_every_length_of_a_number(self):
        for length in range(3, 10):
            word = "1" + "0" * (length - 1)
            self.assert_error(OutOfRange, ("cost", int(word)), read_tasks, f"task p\nkind a {word} 3\n")
        self.assertEqual(read_tasks("task p\nkind a 10 90\n")[0].kinds, [("a", 10, 90)])

    def test_any_words_as_names(self):
        for word in ODD_WORDS:
            with self.subTest(word):
                known = "task p\nkind a 1 1\n"
                if word not in ("task", "kind", "arrow"):
                    self.assert_error(BadName, (word,), read_tasks, f"task {word}\n")
                    self.assert_error(BadName, (word,), read_tasks, f"task p\nkind {word} 1 1\n")
                self.assert_error(UnknownKind, (word,), read_tasks, known + f"arrow {word} a 1\n")
                self.assert_error(UnknownKind, (word,), read_tasks, known + f"arrow a {word} 1\n")


class Write(DuesCase):
    def test_no_task(self):
        self.assertEqual(write_tasks([]), "")

    def test_kinds_and_arrows_in_their_order(self):
        kinds = [("b", 9, 24), ("a", 1, 10)]
        arrows = [("a", "b", 12), ("b", "b", 1), ("b", "a", 3)]
        text = "task p\nkind b 9 24\nkind a 1 10\narrow a b 12\narrow b b 1\narrow b a 3\n"
        self.assertEqual(write_tasks(tasks=[Task("p", kinds, arrows)]), text)

    def test_tasks_in_their_order(self):
        single = Task.single("s", 99, 98)
        loop = Task("p", [("a", 2, 3)], [("a", "a", 4)])
        text = "task s\nkind job 99 98\n"
        self.assertEqual(write_tasks([single, loop, single]), text + GOOD + text)

    def test_the_list_is_not_changed(self):
        tasks = [Task.single("s", 1, 2), Task.single("q", 3, 4)]
        same = list(tasks)
        write_tasks(tasks)
        self.assertEqual(tasks, same)

    def test_read_again(self):
        names = ("a", "b_", "c9", "d")
        kinds = [(name, place + 1, 24 - place) for place, name in enumerate(names)]
        arrows = [(first, second, 12 - place) for place, first in enumerate(names) for second in names[1:]]
        tasks = [
            Task("full", kinds, arrows),
            Task("back", kinds[::-1], arrows[::-1]),
            Task("plain", [("x", 99, 99), ("abcdefghijkl", 1, 1)]),
            Task.single("full", 10, 100 - 1),
        ]
        text = write_tasks(tasks)
        self.assertEqual(told(read_tasks(text)), told(tasks))
        self.assertEqual(write_tasks(read_tasks(text)), text)
        self.assertEqual(read_tasks(write_tasks([])), [])


if __name__ == "__main__":
    unittest.main()
