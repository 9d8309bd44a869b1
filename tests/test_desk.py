"""Points 95 to 101: the desk, compared with a plain list of tasks."""

import math
import random
import unittest

from helper import HUGE, DuesCase, light_task, loops, ring, row_of_steps, some_service, some_task
from walkdues.company import greatest_cost
from walkdues.cycles import common_period
from walkdues.desk import Desk
from walkdues.errors import Absent, DuesError, NothingToUndo, Overloaded, Present, Refused, TooLong
from walkdues.rows import Row
from walkdues.service import calendar_row
from walkdues.tasks import Task
from walkdues.verdicts import first_excess, never_late, slack_row

PUMP = Task("pump", [("a", 2, 3), ("b", 1, 2)], [("a", "b", 2), ("b", "a", 4)])
# The demand is t at every t.
FULL = Task("full", [("a", 1, 1)], [("a", "a", 1)])
X = Task.single("x", 1, 1)
Y = Task.single("y", 2, 5)
Z = Task.single("z", 1, 9)
NAMES = ["p", "q", "r", "s", "t", "u", "v"]


def named(name, task):
    return Task(name, task.kinds, task.arrows)


class PlainDesk:
    """A desk that judges the whole list anew for each deed, and that keeps all its earlier lists."""

    def __init__(self, service=None):
        self.service = service
        self.tasks = []
        self.earlier = []
        self.log = []

    def judge(self, tasks, task):
        if task.name in [other.name for other in tasks]:
            raise Present(task.name)
        period = math.lcm(common_period(tasks + [task]), self.service.period if self.service else 1)
        if period > 5000:
            raise TooLong(period)
        excess = first_excess(tasks + [task], service=self.service)
        if excess is not None:
            self.log.append(("refuse", task.name, excess[0]))
            raise Refused(task.name, *excess)

    def admit_all(self, tasks):
        admitted = list(self.tasks)
        for task in tasks:
            self.judge(admitted, task)
            admitted.append(task)
        self.earlier.append(self.tasks)
        self.tasks = admitted
        self.log += [("admit", task.name) for task in tasks]

    def admit(self, task):
        self.admit_all([task])

    def leave(self, name):
        if name not in [task.name for task in self.tasks]:
            raise Absent(name)
        self.earlier.append(self.tasks)
        self.tasks = [task for task in self.tasks if task.name != name]
        self.log.append(("leave", name))

    def undo(self):
        if not self.earlier:
            raise NothingToUndo()
        self.tasks = self.earlier.pop()
        self.log.append(("undo",))


class DeskCase(DuesCase):
    def state(self, desk):
        return [desk.names, desk.log]

    def refuse(self, wanted, values, desk, deed, *args):
        """The deed raises this; only Refused adds something to the log, and nothing else changes."""
        names, log = self.state(desk)
        slack = desk.slack()
        self.assert_error(wanted, values, deed, *args)
        if wanted is Refused:
            log.append(("refuse", values[0], values[1]))
        self.assertEqual(self.state(desk), [names, log])
        self.assertEqual(desk.slack(), slack)

    def do(self, desk, deed, *args):
        self.assertIsNone(getattr(desk, deed)(*args))


class Rows(DeskCase):
    """Rows of deeds."""

    def outcome(self, desk, deed, args):
        try:
            return [getattr(desk, deed)(*args)]
        except DuesError as error:
            return [type(error), error.args]

    def some_task(self, chance):
        name = chance.choice(NAMES)
        sort = chance.random()
        if sort < 0.4:
            return Task.single(name, chance.randint(1, 9), chance.randint(1, 60))
        if sort < 0.8:
            return light_task(chance, name)
        return named(name, some_task(chance, most_kinds=2))

    def some_deed(self, chance):
        sort = chance.random()
        if sort < 0.4:
            return ("admit", [self.some_task(chance)])
        if sort < 0.6:
            return ("admit_all", [[self.some_task(chance) for _ in range(chance.choice([0, 1, 2, 2, 3]))]])
        if sort < 0.8:
            return ("leave", [chance.choice(NAMES)])
        return ("undo", [])

    def test_a_plain_list(self):
        chance = random.Random(95)
        outcomes = {}
        for number in range(30):
            service = chance.choice([
                None, Row.steady(1), Row.steady(3), calendar_row("1101", speed=2), row_of_steps([3] * 624 + [4], 625),
                some_service(chance),
            ])
            desk, plain = Desk(service=service), PlainDesk(service)
            for _ in range(40):
                deed, args = self.some_deed(chance)
                told = self.outcome(desk, deed, args)
                with self.subTest(f"{number} {deed}"):
                    self.assertEqual(told, self.outcome(plain, deed, args))
                    self.assertEqual(desk.names, [task.name for task in plain.tasks])
                    self.assertEqual(desk.log, plain.log)
                    self.check_room(desk, plain, chance.choice([1, 7, 5000, HUGE]))
                outcomes[told[0]] = outcomes.get(told[0], 0) + 1
        for told in (None, Present, TooLong, Refused, Absent, NothingToUndo):
            self.assertGreater(outcomes[told], 5)

    def check_room(self, desk, plain, deadline):
        self.assertTrue(never_late(plain.tasks, service=plain.service))
        self.assertEqual(desk.slack(), slack_row(plain.tasks, service=plain.service))
        self.assertEqual(desk.room(deadline), greatest_cost(plain.tasks, deadline, service=plain.service))


class Admit(DeskCase):
    def test_a_new_desk(self):
        for desk in (Desk(), Desk(service=None), Desk(service=Row.steady(1))):
            self.assertEqual(self.state(desk), [[], []])
            self.assertEqual([desk.slack(), desk.room(7)], [Row.steady(1), 7])

    def test_in_order(self):
        desk = Desk()
        for task in (Y, Z, X):
            self.do(desk, "admit", task)
        self.assertEqual(self.state(desk), [["y", "z", "x"], [("admit", "y"), ("admit", "z"), ("admit", "x")]])

    def test_present_ahead_of_all(self):
        desk = Desk()
        self.do(desk, "admit", X)
        self.refuse(Present, ("x",), desk, desk.admit, X)
        self.refuse(Present, ("x",), desk, desk.admit, Task.single("x", 1, 99))
        self.refuse(Present, ("x",), desk, desk.admit, Task.single("x", 99, 1))
        self.refuse(Present, ("x",), desk, desk.admit, named("x", loops(7, 8, 9, 11)))
        self.assertEqual(self.state(desk), [["x"], [("admit", "x")]])

    def test_too_long_ahead_of_refused(self):
        desk = Desk(service=Row.steady(9))
        for task in (loops(7), named("m", loops(9)), named("n", loops(11))):
            self.do(desk, "admit", task)
        self.refuse(TooLong, (5544,), desk, desk.admit, named("o", loops(8)))
        self.refuse(TooLong, (5544,), desk, desk.admit, Task("o", [("a", 9, 1)], [("a", "a", 8)]))
        heavy = Task("o", [("a", 9, 1), ("b", 9, 1)], [("a", "a", 1), ("b", "b", 1), ("a", "b", 7)])
        self.refuse(Refused, ("o", 1, 3), desk, desk.admit, heavy)
        self.do(desk, "admit", named("o", loops(7)))
        # Where one has left, the period counts no more.
        self.refuse(TooLong, (5544,), desk, desk.admit, named("p", loops(8)))
        self.do(desk, "leave", "n")
        self.do(desk, "admit", named("p", loops(8)))
        self.refuse(TooLong, (5544,), desk, desk.admit, named("n", loops(11)))

    def test_too_long_with_the_service(self):
        desk = Desk(service=row_of_steps([5] * 1666 + [6], 1667))
        self.do(desk, "admit", X)
        self.refuse(TooLong, (5001,), desk, desk.admit, loops(3))
        self.do(desk, "admit", loops(2))
        wide = Desk(service=row_of_steps([5] * 624 + [6], 625))
        self.do(wide, "admit", loops(8))
        self.refuse(TooLong, (15000,), wide, wide.admit, named("m", loops(3)))

    def test_at_the_limit(self):
        for service in (row_of_steps([5] * 4999 + [6], 5000), row_of_steps([5] * 624 + [6], 625)):
            desk = Desk(service=service)
            self.assertEqual([desk.room(1), desk.slack()], [5, service])
            for task in (loops(8), X, Y):
                self.do(desk, "admit", task)
            self.do(desk, "leave", "x")
            self.assertEqual([desk.slack().period, desk.room(1)], [5000, 4])
            self.do(desk, "admit", X)

    def test_the_service_alone_is_too_long(self):
        desk = Desk(service=row_of_steps([5] * 5000 + [6], 5001))
        for call in (lambda: desk.admit(X), lambda: desk.admit_all([X, Y]), desk.slack, lambda: desk.room(1)):
            self.assert_error(TooLong, (5001,), call)
        self.assert_error(TooLong, (25005,), desk.admit, loops(5))
        self.assert_error(Absent, ("x",), desk.leave, "x")
        self.assert_error(NothingToUndo, (), desk.undo)
        self.assertEqual(self.state(desk), [[], []])
        self.assertIsNone(desk.admit_all([]))
        self.assertIsNone(desk.undo())
        self.assertEqual(self.state(desk), [[], [("undo",)]])

    def test_refused(self):
        desk = Desk()
        self.do(desk, "admit", X)
        self.refuse(Refused, ("w", 1, 1), desk, desk.admit, Task.single("w", 1, 1))
        self.refuse(Refused, ("full", 1, 1), desk, desk.admit, FULL)
        self.refuse(Refused, ("w", 50, 50), desk, desk.admit, Task.single("w", 99, 50))
        self.do(desk, "admit", Task.single("w", 49, 50))
        told = [("refuse", "w", 1), ("refuse", "full", 1), ("refuse", "w", 50), ("admit", "w")]
        self.assertEqual(desk.log, [("admit", "x")] + told)

    def test_full_desks(self):
        desk = Desk(service=Row.steady(120))
        tasks = [Task.single(f"s{at}", 1, 1) for at in range(116)] + [
            PUMP, loops(5), ring(7, 6), Task("t", [("a", 1, 20)], [("a", "a", 9)])
        ]
        self.do(desk, "admit_all", tasks)
        self.assertEqual([len(desk.names), desk.room(1)], [120, 120 - 118])
        self.do(desk, "leave", "s7")
        self.assertEqual(desk.room(1), 3)


class Leave(DeskCase):
    def test_absent(self):
        desk = Desk()
        for name in ("x", "", "No name"):
            self.refuse(Absent, (name,), desk, desk.leave, name)
        self.do(desk, "admit_all", [X, Y])
        self.refuse(Absent, ("z",), desk, desk.leave, "z")
        self.do(desk, "leave", "x")
        self.refuse(Absent, ("x",), desk, desk.leave, "x")
        self.assertEqual(self.state(desk), [["y"], [("admit", "x"), ("admit", "y"), ("leave", "x")]])

    def test_the_room_comes_back(self):
        desk = Desk()
        self.do(desk, "admit_all", [X, Y, Z])
        self.assertEqual(desk.room(5), 2)
        self.do(desk, "leave", "y")
        self.assertEqual([desk.names, desk.room(5), desk.room(9)], [["x", "z"], 4, 7])
        self.do(desk, "admit", Y)
        self.assertEqual(desk.names, ["x", "z", "y"])


class AdmitAll(DeskCase):
    def test_none(self):
        desk = Desk()
        self.do(desk, "admit_all", [])
        self.assertEqual(self.state(desk), [[], []])
        # It is a deed all the same, which undo takes back.
        self.do(desk, "undo")
        self.assertEqual(desk.log, [("undo",)])
        self.refuse(NothingToUndo, (), desk, desk.undo)

    def test_several(self):
        desk = Desk()
        self.do(desk, "admit", Z)
        self.do(desk, "admit_all", [X, Y])
        self.assertEqual(self.state(desk), [["z", "x", "y"], [("admit", "z"), ("admit", "x"), ("admit", "y")]])
        self.do(desk, "undo")
        self.assertEqual(desk.names, ["z"])

    def test_a_name_twice(self):
        desk = Desk(service=Row.steady(9))
        self.refuse(Present, ("x",), desk, desk.admit_all, [X, X])
        self.refuse(Present, ("x",), desk, desk.admit_all, [Y, X, Z, Task.single("x", 1, 50)])
        self.do(desk, "admit", X)
        self.refuse(Present, ("x",), desk, desk.admit_all, [Y, X])
        self.refuse(Present, ("y",), desk, desk.admit_all, [Y, Y, X])
        self.assertEqual(self.state(desk), [["x"], [("admit", "x")]])

    def test_a_refusal_at_any_place(self):
        bad = Task.single("bad", 50, 10)
        for place in range(4):
            desk = Desk()
            tasks = [X, Y, Z][:place] + [bad] + [X, Y, Z][place:]
            excess = first_excess(tasks[:place + 1])
            self.refuse(Refused, ("bad", *excess), desk, desk.admit_all, tasks)
            self.assertEqual(self.state(desk), [[], [("refuse", "bad", 10)]])
            self.refuse(NothingToUndo, (), desk, desk.undo)
            self.do(desk, "admit_all", [X, Y, Z])

    def test_the_first_error_counts(self):
        desk = Desk()
        bad = Task.single("bad", 50, 10)
        long = named("long", loops(7, 8, 9, 11))
        self.refuse(Refused, ("bad", 10, 40), desk, desk.admit_all, [bad, long, bad])
        self.refuse(TooLong, (5544,), desk, desk.admit_all, [X, long, bad])
        self.refuse(Present, ("x",), desk, desk.admit_all, [X, X, long])

    def test_the_period_up_to_the_task(self):
        desk = Desk(service=Row.steady(9))
        tasks = [named("k", loops(7)), named("l", loops(9)), named("m", loops(11)), named("n", loops(8)), loops(10)]
        self.refuse(TooLong, (5544,), desk, desk.admit_all, tasks)
        self.assertEqual(desk.log, [])

    def test_what_is_passed(self):
        desk = Desk()
        tasks = [X, Y]
        desk.admit_all(tasks)
        self.assertEqual(tasks, [X, Y])
        tasks.append(Z)
        tasks[0] = FULL
        self.assertEqual(desk.names, ["x", "y"])


class Undo(DeskCase):
    def test_each_deed(self):
        desk = Desk()
        self.do(desk, "admit", X)
        self.do(desk, "undo")
        self.assertEqual(self.state(desk), [[], [("admit", "x"), ("undo",)]])
        self.do(desk, "admit_all", [X, Y, Z])
        self.do(desk, "leave", "y")
        self.assertEqual(desk.names, ["x", "z"])
        self.do(desk, "undo")
        # The task is back at its place.
        self.assertEqual(desk.names, ["x", "y", "z"])
        self.do(desk, "undo")
        self.assertEqual(desk.names, [])
        self.refuse(NothingToUndo, (), desk, desk.undo)
        self.assertEqual(desk.log[2:], [
            ("admit", "x"), ("admit", "y"), ("admit", "z"), ("leave", "y"), ("undo",), ("undo",)
        ])

    def test_several_in_a_row(self):
        desk = Desk()
        lists = [desk.names]
        for deed, thing in (
            ("admit", X), ("admit", Y), ("leave", "x"), ("admit_all", [Z, X]), ("admit_all", []), ("leave", "z")
        ):
            self.do(desk, deed, thing)
            lists.append(desk.names)
        for names in lists[-2::-1]:
            self.do(desk, "undo")
            self.assertEqual(desk.names, names)
        self.refuse(NothingToUndo, (), desk, desk.undo)

    def test_deeds_that_raised_do_not_count(self):
        desk = Desk()
        self.do(desk, "admit", X)
        self.do(desk, "admit", Y)
        self.refuse(Refused, ("full", 1, 1), desk, desk.admit, FULL)
        self.refuse(Present, ("x",), desk, desk.admit, X)
        self.refuse(Absent, ("z",), desk, desk.leave, "z")
        self.refuse(TooLong, (5544,), desk, desk.admit, loops(7, 8, 9, 11))
        self.do(desk, "undo")
        self.assertEqual(desk.names, ["x"])
        self.refuse(Refused, ("full", 1, 1), desk, desk.admit, FULL)
        self.do(desk, "undo")
        self.assertEqual(desk.names, [])

    def test_an_undo_is_not_taken_back(self):
        desk = Desk()
        self.do(desk, "admit", X)
        self.do(desk, "undo")
        self.refuse(NothingToUndo, (), desk, desk.undo)
        self.do(desk, "admit", Y)
        self.do(desk, "admit", Z)
        self.do(desk, "undo")
        self.do(desk, "admit", X)
        self.do(desk, "undo")
        self.assertEqual(desk.names, ["y"])
        self.do(desk, "undo")
        self.refuse(NothingToUndo, (), desk, desk.undo)

    def test_room_and_slack_go_back(self):
        desk = Desk(service=calendar_row("110", speed=3))
        rows = [desk.slack()]
        for task in (PUMP, Z, Y):
            self.do(desk, "admit", task)
            rows.append(desk.slack())
        self.do(desk, "leave", "pump")
        self.do(desk, "undo")
        for row in rows[::-1]:
            self.assertEqual(desk.slack(), row)
            self.assertEqual(desk.room(9), row(9))
            if desk.names:
                self.do(desk, "undo")


class Views(DeskCase):
    def test_new_lists(self):
        desk = Desk()
        desk.admit(X)
        desk.names.append("y")
        desk.log.clear()
        self.assertEqual(self.state(desk), [["x"], [("admit", "x")]])
        self.assertIsNot(desk.names, desk.names)
        self.assertIsNot(desk.log, desk.log)
        kept = [desk.names, desk.log]
        desk.admit(Y)
        self.assertEqual(kept, [["x"], [("admit", "x")]])
        self.assertEqual([type(line) for line in desk.log], [tuple, tuple])

    def test_two_desks(self):
        one, two = Desk(), Desk()
        one.admit(X)
        self.assertEqual(self.state(two), [[], []])
        self.refuse(NothingToUndo, (), two, two.undo)
        two.admit_all([Y, X])
        one.leave("x")
        self.assertEqual([one.names, two.names], [[], ["y", "x"]])
        self.assertEqual([one.room(5), two.room(5)], [5, 2])

    def test_services(self):
        for service in (
            None, Row.steady(1), Row.steady(7), calendar_row("0110", speed=5), row_of_steps([4, 0, 9, 0, 1, 3], 2),
            row_of_steps([9, 0], 1), row_of_steps([0] * 4 + [1000] + [0] * 4994 + [7], 1),
        ):
            desk = Desk(service=service)
            tasks = []
            for task in (Z, Y, PUMP):
                if never_late(tasks + [task], service=service):
                    desk.admit(task)
                    tasks.append(task)
            self.assertEqual(desk.names, [task.name for task in tasks])
            self.assertEqual(desk.slack(), slack_row(tasks, service=service))
            for deadline in (1, 2, 5, 24, 99, 5000, 5001, 10 ** 29):
                self.assertEqual(desk.room(deadline), greatest_cost(tasks, deadline, service=service))

    def test_never_overloaded(self):
        desk = Desk()
        desk.admit(FULL)
        self.assertEqual([desk.slack(), desk.room(HUGE)], [Row.steady(0), 0])
        self.refuse(Refused, ("loops", 1, 1), desk, desk.admit, loops(12))
        self.assertRaises(Overloaded, slack_row, [FULL, loops(12)])

    def test_by_keyword(self):
        self.assertRaises(TypeError, Desk, None)


if __name__ == "__main__":
    unittest.main()
