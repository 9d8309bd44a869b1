"""Points 5 to 7 and 11 to 13: tasks, what they tell and what they do not allow."""

import string
import unittest

from helper import DuesCase
from walkdues.errors import BadName, OutOfRange, Repeated, RepeatedArrow, UnknownKind, WrongCount
from walkdues.tasks import Task

KINDS = [("a", 2, 3), ("b", 1, 2), ("c_9", 9, 24)]
ARROWS = [("b", "a", 4), ("a", "c_9", 12), ("a", "b", 2), ("a", "a", 1), ("c_9", "c_9", 7)]
LOOP = [("a", "a", 1)]

GOOD_NAMES = ["a", "z", "m", "a0", "z9", "a_", "b__", "x5_y", "abcdefghijkl", "a23456789012", "job"]
LONG_NAME = "abcdefghijklm"
BAD_NAMES = [
    "", LONG_NAME, "a" * 200, "0", "9a", "_", "_a", "A", "Ab", "aB", "aZ", "a b", " a", "a ", " ",
    "a\n", "\na", "\n", "a\nb", "a\t", "a\r", "a\x00", "a-b", "a.b", "a/b", "a:b", "a`", "a{", "a@", "a[", "a^",
    "\u00e4", "a\u00e9", "a\u00df", "a\u0661", "a\u00b2", "\u0430", "a\uff41", "a\u200b", "a\ud800", "a\U0001f600",
]

# Every arrow between four kinds, in one order: 16 of them.
FOUR_KINDS = [("a", 1, 1), ("b", 1, 1), ("c", 1, 1), ("d", 1, 1)]
MANY_ARROWS = [(first, second, 1) for first in "abcd" for second in "abcd"]


def task_of(kinds, arrows=()):
    return Task("t", kinds, arrows)


class Told(DuesCase):
    def test_what_was_passed_in_its_order(self):
        task = Task("pump", KINDS, ARROWS)
        self.assertEqual(task.name, "pump")
        self.assertEqual(task.kinds, KINDS)
        self.assertEqual(task.arrows, ARROWS)
        self.assertEqual([task.cost_of(kind) for kind in ("a", "b", "c_9")], [2, 1, 9])
        self.assertEqual([task.deadline_of(kind) for kind in ("a", "b", "c_9")], [3, 2, 24])
        self.assertEqual(task.followers("a"), [("c_9", 12), ("b", 2), ("a", 1)])
        self.assertEqual(task.followers("b"), [("a", 4)])
        self.assertEqual(task.followers("c_9"), [("c_9", 7)])

    def test_the_other_order(self):
        task = Task("pump", KINDS[::-1], ARROWS[::-1])
        self.assertEqual(task.kinds, KINDS[::-1])
        self.assertEqual(task.arrows, ARROWS[::-1])
        self.assertEqual(task.followers("a"), [("a", 1), ("b", 2), ("c_9", 12)])

    def test_kinds_of_values(self):
        task = Task("pump", tuple(KINDS), tuple(ARROWS))
        for told in (task.kinds, task.arrows, task.followers("a")):
            self.assertIs(type(told), list)
            for item in told:
                self.assertIs(type(item), tuple)

    def test_tuples_instead_of_lists(self):
        for kinds in (KINDS, tuple(KINDS)):
            for arrows in (ARROWS, tuple(ARROWS)):
                task = Task("pump", kinds, arrows)
                self.assertEqual([task.kinds, task.arrows], [KINDS, ARROWS])

    def test_arguments_by_name(self):
        task = Task(arrows=ARROWS, kinds=KINDS, name="pump")
        self.assertEqual([task.name, task.kinds, task.arrows], ["pump", KINDS, ARROWS])
        task = Task("pump", KINDS, arrows=ARROWS)
        self.assertEqual([task.name, task.kinds, task.arrows], ["pump", KINDS, ARROWS])
        self.assertEqual(task.cost_of(kind="a"), 2)
        self.assertEqual(task.deadline_of(kind="a"), 3)
        self.assertEqual(task.followers(kind="b"), [("a", 4)])

    def test_no_arrows_at_all(self):
        for task in (Task("p", KINDS), Task("p", KINDS, []), Task("p", KINDS, ()), Task("p", KINDS, arrows=[])):
            self.assertEqual(task.arrows, [])
            self.assertEqual(task.kinds, KINDS)
            self.assertEqual([task.followers(kind) for kind in ("a", "b", "c_9")], [[], [], []])

    def test_a_kind_without_followers(self):
        self.assertEqual(task_of([("a", 1, 1), ("b", 1, 1)], [("a", "b", 1)]).followers("b"), [])

    def test_single(self):
        task = Task.single("s", 2, 50)
        self.assertIs(type(task), Task)
        self.assertEqual([task.name, task.kinds, task.arrows], ["s", [("job", 2, 50)], []])
        self.assertEqual([task.cost_of("job"), task.deadline_of("job"), task.followers("job")], [2, 50, []])
        task = Task.single(deadline=1, cost=99, name="q")
        self.assertEqual([task.name, task.kinds], ["q", [("job", 99, 1)]])
        self.assertIsInstance(vars(Task)["single"], staticmethod)

    def test_single_raises_what_the_constructor_raises(self):
        self.assert_error(BadName, ("S",), Task.single, "S", 0, 0)
        self.assert_error(OutOfRange, ("cost", 0), Task.single, "s", 0, 100)
        self.assert_error(OutOfRange, ("cost", 100), Task.single, "s", 100, 0)
        self.assert_error(OutOfRange, ("deadline", 0), Task.single, "s", 99, 0)
        self.assert_error(OutOfRange, ("deadline", 100), Task.single, "s", 1, 100)

    def test_a_task_may_have_the_name_of_its_kind(self):
        self.assertEqual(Task("a", [("a", 1, 1)]).kinds, [("a", 1, 1)])

    def test_identity(self):
        task = Task("pump", KINDS, ARROWS)
        other = Task("pump", KINDS, ARROWS)
        self.assertTrue(task == task)
        self.assertFalse(task != task)
        self.assertFalse(task == other)
        self.assertTrue(task != other)
        self.assertFalse(Task.single("s", 1, 1) == Task.single("s", 1, 1))
        self.assertEqual(len({task, other, task}), 2)
        self.assertEqual([other, task].index(task), 1)


class Unknown(DuesCase):
    def test_no_kind_of_this_name(self):
        task = Task("pump", KINDS, ARROWS)
        for kind in ("", "A", "C_9", "pump", "c", "c_", "c_99", "a\n", " a", "b ", "job", "ab", "\u00e4"):
            for method in (task.cost_of, task.deadline_of, task.followers):
                with self.subTest(f"{method.__name__} {kind!r}"):
                    self.assert_error(UnknownKind, (kind,), method, kind)

    def test_no_kind_of_this_name_without_arrows(self):
        task = Task.single("s", 1, 1)
        for kind in ("", "Job", "s"):
            for method in (task.cost_of, task.deadline_of, task.followers):
                self.assert_error(UnknownKind, (kind,), method, kind)


class Copies(DuesCase):
    def assert_unchanged(self, task):
        self.assertEqual([task.name, task.kinds, task.arrows], ["pump", KINDS, ARROWS])
        self.assertEqual([task.cost_of("a"), task.deadline_of("a")], [2, 3])
        self.assertEqual(task.followers("a"), [("c_9", 12), ("b", 2), ("a", 1)])
        self.assert_error(UnknownKind, ("d",), task.cost_of, "d")

    def test_passed_lists_are_changed_afterwards(self):
        kinds, arrows = list(KINDS), list(ARROWS)
        task = Task("pump", kinds, arrows)
        kinds[0] = ("a", 8, 8)
        kinds.append(("d", 1, 1))
        arrows[1] = ("a", "c_9", 3)
        arrows.append(("a", "d", 1))
        self.assert_unchanged(task)
        kinds.clear()
        arrows.clear()
        self.assert_unchanged(task)

    def test_returned_lists_are_changed_afterwards(self):
        task = Task("pump", KINDS, ARROWS)
        for told in (task.kinds, task.arrows, task.followers("a"), task.followers("b")):
            told[0] = ("d", 1, 1)
            told.append(("d", 1, 1))
            self.assert_unchanged(task)
            told.clear()
            self.assert_unchanged(task)

    def test_each_returned_list_is_new(self):
        task = Task("pump", KINDS, ARROWS)
        self.assertIsNot(task.kinds, task.kinds)
        self.assertIsNot(task.arrows, task.arrows)
        self.assertIsNot(task.followers("a"), task.followers("a"))

    def test_no_argument_is_changed(self):
        kinds, arrows = list(KINDS), list(ARROWS)
        Task("pump", kinds, arrows)
        self.assertEqual([kinds, arrows], [KINDS, ARROWS])
        wrong = [*ARROWS, ("a", "a", 1)]
        self.assert_error(RepeatedArrow, ("a", "a"), Task, "pump", kinds, wrong)
        self.assertEqual([kinds, wrong], [KINDS, [*ARROWS, ("a", "a", 1)]])

    def test_kinds_and_arrows_cannot_be_assigned(self):
        task = Task("pump", KINDS, ARROWS)
        for name in ("kinds", "arrows"):
            with self.assertRaises(AttributeError):
                setattr(task, name, [])
        self.assert_unchanged(task)


class Names(DuesCase):
    def test_good_names(self):
        for name in GOOD_NAMES:
            with self.subTest(name):
                self.assertEqual(Task(name, [(name, 1, 1)], [(name, name, 1)]).kinds, [(name, 1, 1)])
                self.assertEqual(Task(name, [("a", 1, 1)]).name, name)

    def test_bad_names(self):
        for name in BAD_NAMES:
            with self.subTest(repr(name)):
                self.assert_error(BadName, (name,), Task, name, [("a", 1, 1)])
                self.assert_error(BadName, (name,), task_of, [(name, 1, 1)])
                self.assert_error(BadName, (name,), task_of, [("a", 1, 1), (name, 1, 1)], LOOP)

    def test_every_ascii_character(self):
        for number in range(128):
            mark = chr(number)
            with self.subTest(repr(mark)):
                if mark in string.ascii_lowercase:
                    self.assertEqual(Task(mark, [("a", 1, 1)]).name, mark)
                else:
                    self.assert_error(BadName, (mark,), Task, mark, [("a", 1, 1)])
                for name in ("a" + mark, "a" + mark + "b"):
                    if mark in string.ascii_lowercase + string.digits + "_":
                        self.assertEqual(Task(name, [("a", 1, 1)]).name, name)
                    else:
                        self.assert_error(BadName, (name,), Task, name, [("a", 1, 1)])

    def test_lengths(self):
        for length in range(1, 13):
            self.assertEqual(Task("b" * length, [("c" * length, 1, 1)]).name, "b" * length)
        for length in (0, 13, 14, 100):
            self.assert_error(BadName, ("b" * length,), Task, "b" * length, [("a", 1, 1)])


class Counts(DuesCase):
    def test_kinds(self):
        for count in range(1, 5):
            self.assertEqual(task_of(FOUR_KINDS[:count]).kinds, FOUR_KINDS[:count])
            self.assertEqual(task_of(FOUR_KINDS[:count], LOOP).kinds, FOUR_KINDS[:count])
        self.assert_error(WrongCount, ("kinds", 0), task_of, [])
        self.assert_error(WrongCount, ("kinds", 0), task_of, ())
        self.assert_error(WrongCount, ("kinds", 5), task_of, [*FOUR_KINDS, ("e", 1, 1)])
        self.assert_error(WrongCount, ("kinds", 5), task_of, (*FOUR_KINDS, ("e", 1, 1)), LOOP)
        self.assert_error(WrongCount, ("kinds", 8), task_of, FOUR_KINDS * 2)

    def test_arrows(self):
        for count in range(0, 13):
            self.assertEqual(task_of(FOUR_KINDS, MANY_ARROWS[:count]).arrows, MANY_ARROWS[:count])
        for count in (13, 14, 16):
            self.assert_error(WrongCount, ("arrows", count), task_of, FOUR_KINDS, MANY_ARROWS[:count])
            self.assert_error(WrongCount, ("arrows", count), task_of, FOUR_KINDS, tuple(MANY_ARROWS[:count]))


class Ranges(DuesCase):
    def assert_range(self, what, most, make):
        for value in (1, 2, most - 1, most):
            with self.subTest(f"{what} {value}"):
                make(value)
        for value in (0, -1, -most, most + 1, most + 2, 1000, -(10 ** 30), 10 ** 30):
            with self.subTest(f"{what} {value}"):
                self.assert_error(OutOfRange, (what, value), make, value)

    def test_cost_with_arrows(self):
        self.assert_range("cost", 9, lambda cost: task_of([("a", cost, 1)], LOOP))
        self.assert_range("cost", 9, lambda cost: task_of([("a", 9, 24), ("b", cost, 24)], LOOP))

    def test_deadline_with_arrows(self):
        self.assert_range("deadline", 24, lambda deadline: task_of([("a", 1, deadline)], LOOP))
        self.assert_range("deadline", 24, lambda deadline: task_of([("a", 9, 24), ("b", 9, deadline)], LOOP))

    def test_cost_without_arrows(self):
        self.assert_range("cost", 99, lambda cost: task_of([("a", cost, 1)]))
        self.assert_range("cost", 99, lambda cost: task_of([("a", 99, 99), ("b", cost, 99)], []))

    def test_deadline_without_arrows(self):
        self.assert_range("deadline", 99, lambda deadline: task_of([("a", 1, deadline)]))
        self.assert_range("deadline", 99, lambda deadline: task_of([("a", 99, 99), ("b", 99, deadline)], []))

    def test_gap(self):
        self.assert_range("gap", 12, lambda gap: task_of([("a", 1, 1)], [("a", "a", gap)]))
        self.assert_range("gap", 12, lambda gap: task_of([("a", 1, 1), ("b", 1, 1)], [("a", "a", 12), ("a", "b", gap)]))

    def test_values_are_kept(self):
        self.assertEqual(task_of([("a", 9, 24)], [("a", "a", 12)]).kinds, [("a", 9, 24)])
        self.assertEqual(task_of([("a", 99, 99)]).kinds, [("a", 99, 99)])

    def test_arrows_that_are_wrong_make_the_ranges_narrow(self):
        wrong = [("x", "a", 1)], [("a", "x", 1)], [("a", "a", 0)], [("a", "a", 13)], [("", "", -1)], LOOP * 2
        for arrows in wrong:
            with self.subTest(repr(arrows)):
                self.assert_error(OutOfRange, ("cost", 10), task_of, [("a", 10, 24)], arrows)
                self.assert_error(OutOfRange, ("deadline", 25), task_of, [("a", 9, 25)], arrows)


class Repetitions(DuesCase):
    def test_repeated_kind(self):
        self.assert_error(Repeated, ("a",), task_of, [("a", 1, 1), ("a", 2, 2)])
        self.assert_error(Repeated, ("b",), task_of, [("a", 1, 1), ("b", 1, 1), ("c", 1, 1), ("b", 1, 1)], LOOP)
        self.assert_error(Repeated, ("b",), task_of, [("a", 1, 1), ("b", 1, 1), ("b", 1, 1), ("a", 1, 1)])

    def test_unknown_first_and_second(self):
        for kind in ("x", "", "A", "a\n", LONG_NAME, "_"):
            self.assert_error(UnknownKind, (kind,), task_of, KINDS, [(kind, "a", 1)])
            self.assert_error(UnknownKind, (kind,), task_of, KINDS, [("a", kind, 1)])
            self.assert_error(UnknownKind, (kind,), task_of, KINDS, [*ARROWS, (kind, kind, 1)])

    def test_repeated_arrow(self):
        self.assert_error(RepeatedArrow, ("a", "a"), task_of, KINDS, LOOP * 2)
        self.assert_error(RepeatedArrow, ("a", "b"), task_of, KINDS, [*ARROWS, ("a", "b", 11)])
        self.assert_error(RepeatedArrow, ("b", "a"), task_of, KINDS, [*ARROWS, ("b", "a", 4)])

    def test_the_way_back_is_another_arrow(self):
        arrows = [("a", "b", 1), ("b", "a", 1)]
        self.assertEqual(task_of(KINDS, arrows).arrows, arrows)


class Order(DuesCase):
    """Where two or more errors apply, the first one in the order of point 12 is raised."""

    def test_name_then_counts_then_the_rest(self):
        bad_kind, bad_arrow = ("", 0, 0), ("", "", 0)
        self.assert_error(BadName, ("A",), Task, "A", [], [bad_arrow] * 13)
        self.assert_error(BadName, ("A",), Task, "A", [("B", 1, 1)])
        self.assert_error(WrongCount, ("kinds", 0), task_of, [], [bad_arrow] * 13)
        self.assert_error(WrongCount, ("kinds", 5), task_of, [bad_kind] * 5, [bad_arrow] * 13)
        self.assert_error(WrongCount, ("kinds", 5), task_of, [bad_kind] * 5, [bad_arrow])
        self.assert_error(WrongCount, ("arrows", 13), task_of, [bad_kind], [bad_arrow] * 13)
        self.assert_error(WrongCount, ("arrows", 13), task_of, [("a", 1, 1)] * 2, [bad_arrow] * 13)

    def test_within_one_kind(self):
        self.assert_error(BadName, ("A",), task_of, [("A", 0, 0)])
        self.assert_error(BadName, ("A",), task_of, [("a", 1, 1), ("A", 100, 100)])
        self.assert_error(Repeated, ("a",), task_of, [("a", 1, 1), ("a", 0, 0)])
        self.assert_error(OutOfRange, ("cost", 0), task_of, [("a", 0, 0)])
        self.assert_error(OutOfRange, ("cost", 100), task_of, [("a", 100, 100)])

    def test_kind_by_kind(self):
        self.assert_error(OutOfRange, ("deadline", 0), task_of, [("a", 1, 0), ("B", 0, 1)])
        self.assert_error(OutOfRange, ("deadline", 0), task_of, [("a", 1, 0), ("a", 1, 1)])
        self.assert_error(BadName, ("B",), task_of, [("a", 1, 1), ("B", 1, 1), ("a", 1, 1)])
        self.assert_error(Repeated, ("a",), task_of, [("a", 1, 1), ("a", 1, 1), ("B", 1, 1)])
        self.assert_error(OutOfRange, ("cost", 0), task_of, [("b", 1, 1), ("a", 0, 1), ("b", 1, 1)])

    def test_kinds_before_arrows(self):
        bad_arrow = ("x", "y", 0)
        self.assert_error(BadName, ("B",), task_of, [("a", 1, 1), ("B", 1, 1)], [bad_arrow])
        self.assert_error(Repeated, ("a",), task_of, [("a", 1, 1), ("a", 1, 1)], [bad_arrow])
        self.assert_error(OutOfRange, ("cost", 0), task_of, [("a", 1, 1), ("b", 0, 1)], [bad_arrow])
        self.assert_error(OutOfRange, ("deadline", 0), task_of, [("a", 1, 1), ("b", 1, 0)], [bad_arrow])

    def test_within_one_arrow(self):
        self.assert_error(UnknownKind, ("x",), task_of, KINDS, [("x", "y", 0)])
        self.assert_error(UnknownKind, ("y",), task_of, KINDS, [("a", "y", 0)])
        self.assert_error(OutOfRange, ("gap", 0), task_of, KINDS, [("a", "b", 1), ("a", "b", 0)])
        self.assert_error(OutOfRange, ("gap", 13), task_of, KINDS, [("a", "b", 1), ("a", "b", 13)])

    def test_arrow_by_arrow(self):
        self.assert_error(OutOfRange, ("gap", 0), task_of, KINDS, [("a", "b", 0), ("x", "a", 1)])
        self.assert_error(UnknownKind, ("y",), task_of, KINDS, [("a", "y", 1), ("x", "a", 1)])
        self.assert_error(RepeatedArrow, ("a", "b"), task_of, KINDS, [("a", "b", 1), ("a", "b", 1), ("x", "a", 1)])
        self.assert_error(UnknownKind, ("x",), task_of, KINDS, [("a", "b", 1), ("x", "a", 1), ("a", "b", 1)])


if __name__ == "__main__":
    unittest.main()
