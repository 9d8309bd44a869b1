"""What the tests share: the errors of the interface, a check of what a call raises, and tasks and runs by chance.

Everything by chance is drawn from a random.Random with a fixed seed, so each run of the tests is the same.
"""

import unittest

from walkdues.runs import Run
from walkdues.tasks import Task

# The attributes of each error class, in the order in which the interface lists them.
ERRORS = {
    "BadName": ("name",),
    "WrongCount": ("what", "count"),
    "OutOfRange": ("what", "value"),
    "Repeated": ("name",),
    "RepeatedArrow": ("first", "second"),
    "UnknownKind": ("name",),
    "UnknownArrow": ("first", "second"),
    "BadLine": ("line",),
    "BadCost": ("task", "place"),
    "BadRelease": ("task", "place"),
    "NoArrow": ("task", "place"),
    "GapTooShort": ("task", "place"),
    "UnknownJob": ("place",),
    "EmptySlice": ("place",),
    "Overlap": ("place",),
    "TooEarly": ("place",),
    "WrongAmount": ("job",),
    "BadRow": (),
    "TooLong": ("period",),
    "Falling": ("gain",),
    "BadCalendar": ("calendar",),
    "Overloaded": ("cost", "length"),
    "LateSet": ("which",),
    "Clash": ("admitted", "refused"),
    "NotOpen": ("answer",),
    "Refused": ("name", "ticks", "excess"),
    "Present": ("name",),
    "Absent": ("name",),
    "NothingToUndo": (),
}


class DuesCase(unittest.TestCase):
    """A test case that can ask for one error with its attributes."""

    def assert_error(self, wanted, values, call, *args, **more):
        """The call raises an error of just this class, with these values as its attributes."""
        with self.assertRaises(wanted) as caught:
            call(*args, **more)
        error = caught.exception
        self.assertIs(type(error), wanted)
        told = tuple(getattr(error, name) for name in ERRORS[wanted.__name__])
        self.assertEqual(told, values)


def some_task(chance, name="t", most_kinds=4, most_cost=9, most_deadline=24, most_gap=12):
    """A task with arrows in most cases; chance is a random.Random with a fixed seed."""
    names = chance.sample(["a", "b", "c", "d"], chance.randint(1, most_kinds))
    kinds = [(kind, chance.randint(1, most_cost), chance.randint(1, most_deadline)) for kind in names]
    pairs = [(first, second) for first in names for second in names]
    chosen = chance.sample(pairs, min(12, chance.randint(0, len(pairs))))
    return Task(name, kinds, [(first, second, chance.randint(1, most_gap)) for first, second in chosen])


def some_walk(chance, task, most_jobs, grain=1, most_wait=5, begin=0):
    """A walk of the task with at most this many jobs, with some waiting between them."""
    walk = []
    kind = chance.choice([kind[0] for kind in task.kinds])
    release = begin + chance.randint(0, most_wait)
    for _ in range(chance.randint(0, most_jobs)):
        walk.append((kind, release, chance.randint(1, grain * task.cost_of(kind))))
        if not task.followers(kind):
            break
        kind, gap = chance.choice(task.followers(kind))
        release += grain * gap + chance.choice([0, 0, chance.randint(0, most_wait)])
    return walk


def some_run(chance, most_tasks=4, most_jobs=5, grain=1, **bounds):
    """A run of some tasks, which may stand in the list twice."""
    tasks = [some_task(chance, **bounds) for _ in range(chance.randint(1, most_tasks))]
    tasks += chance.choice([[], tasks[:1]])
    return Run(tasks, [some_walk(chance, task, most_jobs, grain) for task in tasks], grain=grain)


def single_run(*jobs):
    """A run of tasks without arrows: each job is (release, cost, deadline)."""
    tasks = [Task.single("s", cost, deadline) for _, cost, deadline in jobs]
    return Run(tasks, [[("job", release, cost)] for release, cost, _ in jobs])
