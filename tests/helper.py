"""What the tests share: the errors of the interface, a check of what a call raises, and tasks and runs by chance.

Everything by chance is drawn from a random.Random with a fixed seed, so each run of the tests is the same.
"""

import sys
import unittest

from walkdues.cycles import common_period
from walkdues.rows import Row
from walkdues.runs import Run
from walkdues.service import calendar_row
from walkdues.tasks import Task

# The attributes of each error class, in the order in which the interface lists them.
ERRORS = {
    "BadName": ("name",),
    "WrongCount": ("what", "count"),
    "OutOfRange": ("what", "value"),
    "Repeated": ("name",),
    "RepeatedArrow": ("first", "second"),
    "UnknownKind": ("name",),
    "UnknownArrow": ("first", "second"),
    "BadLine": ("line",),
    "BadCost": ("task", "place"),
    "BadRelease": ("task", "place"),
    "NoArrow": ("task", "place"),
    "GapTooShort": ("task", "place"),
    "UnknownJob": ("place",),
    "EmptySlice": ("place",),
    "Overlap": ("place",),
    "TooEarly": ("place",),
    "WrongAmount": ("job",),
    "BadRow": (),
    "TooLong": ("period",),
    "Falling": ("gain",),
    "BadCalendar": ("calendar",),
    "Overloaded": ("cost", "length"),
    "LateSet": ("which",),
    "Clash": ("admitted", "refused"),
    "NotOpen": ("answer",),
    "Refused": ("name", "ticks", "excess"),
    "Present": ("name",),
    "Absent": ("name",),
    "NothingToUndo": (),
}
HUGE = 10 ** 40
BAD_SPEEDS = (0, -1, 100, -99, HUGE, -HUGE)

# The same numbers never meet here: what is compared is always of one kind.
KEYS = {
    "due": lambda job: job[5],
    "release": lambda job: job[3],
    "latest first": lambda job: -job[3],
    "negative due": lambda job: -job[5] - 1,
    "the same": lambda job: 7,
    "the same tuple": lambda job: (),
    "cost, then due": lambda job: (job[4], -job[5]),
    "tuples of several lengths": lambda job: (job[0] % 2,) * (1 + job[1] % 3),
    "a large number": lambda job: HUGE * (job[0] - 2),
}


class DuesCase(unittest.TestCase):
    """A test case that can ask for one error with its attributes."""

    def assert_error(self, wanted, values, call, *args, **more):
        """The call raises an error of just this class, with these values as its attributes."""
        with self.assertRaises(wanted) as caught:
            call(*args, **more)
        error = caught.exception
        self.assertIs(type(error), wanted)
        told = tuple(getattr(error, name) for name in ERRORS[wanted.__name__])
        self.assertEqual(told, values)


def some_task(chance, name="t", most_kinds=4, most_cost=9, most_deadline=24, most_gap=12):
    """A task with arrows in most cases; chance is a random.Random with a fixed seed."""
    names = chance.sample(["a", "b", "c", "d"], chance.randint(1, most_kinds))
    kinds = [(kind, chance.randint(1, most_cost), chance.randint(1, most_deadline)) for kind in names]
    pairs = [(first, second) for first in names for second in names]
    chosen = chance.sample(pairs, min(12, chance.randint(0, len(pairs))))
    return Task(name, kinds, [(first, second, chance.randint(1, most_gap)) for first, second in chosen])


def some_walk(chance, task, most_jobs, grain=1, most_wait=5, begin=0):
    """A walk of the task with at most this many jobs, with some waiting between them."""
    walk = []
    kind = chance.choice([kind[0] for kind in task.kinds])
    release = begin + chance.randint(0, most_wait)
    for _ in range(chance.randint(0, most_jobs)):
        walk.append((kind, release, chance.randint(1, grain * task.cost_of(kind))))
        if not task.followers(kind):
            break
        kind, gap = chance.choice(task.followers(kind))
        release += grain * gap + chance.choice([0, 0, chance.randint(0, most_wait)])
    return walk


def some_run(chance, most_tasks=4, most_jobs=5, grain=1, **bounds):
    """A run of some tasks, which may stand in the list twice."""
    tasks = [some_task(chance, **bounds) for _ in range(chance.randint(1, most_tasks))]
    tasks += chance.choice([[], tasks[:1]])
    return Run(tasks, [some_walk(chance, task, most_jobs, grain) for task in tasks], grain=grain)


def single_run(*jobs):
    """A run of tasks without arrows: each job is (release, cost, deadline)."""
    tasks = [Task.single("s", cost, deadline) for _, cost, deadline in jobs]
    return Run(tasks, [[("job", release, cost)] for release, cost, _ in jobs])


def loops(*gaps):
    """A task with a loop with each of these gaps, and no other arrow."""
    names = "abcd"[:len(gaps)]
    arrows = [(name, name, gap) for name, gap in zip(names, gaps)]
    return Task("loops", [(name, 1, 1) for name in names], arrows)


def ring(*gaps):
    """A task with one cycle with these gaps."""
    names = "abcd"[:len(gaps)]
    arrows = [(name, names[place - len(names) + 1], gaps[place]) for place, name in enumerate(names)]
    return Task("ring", [(name, 1, 1) for name in names], arrows)


def some_calendar(chance, length=None):
    """A calendar of this length, or of any length."""
    marks = [chance.choice("01") for _ in range(length or chance.randint(1, 24))]
    marks[chance.randrange(len(marks))] = "1"
    return "".join(marks)


def row_of_steps(steps, period):
    """The row that begins with 0 and grows by these steps; the last ones, as many as the period, are repeated."""
    values = [sum(steps[:count]) for count in range(len(steps) + 1)]
    return Row(values[:-1], period, values[-1] - values[-1 - period])


def some_service(chance):
    """A service: steady, of a calendar, uneven at first, or one that stops to grow."""
    sort = chance.choice(["steady", "calendar", "uneven", "ending"])
    if sort == "steady":
        return Row.steady(chance.choice([0, 1, 1, 2, 3, 5]))
    if sort == "calendar":
        return calendar_row(some_calendar(chance), speed=chance.choice([1, 2, 5, 20]))
    steps = [chance.choice([0, 0, 1, 2, 9]) for _ in range(chance.randint(2, 30))]
    if sort == "uneven":
        return row_of_steps(steps, chance.randint(1, len(steps)))
    return row_of_steps(steps + [0], 1)


def some_tasks(chance, most_tasks=4, most_period=100, **bounds):
    """A list of a few tasks, some of them without arrows; one may stand in it twice."""
    while True:
        tasks = [some_task(chance, f"t{number}", **bounds) for number in range(chance.randint(0, most_tasks - 1))]
        tasks += [single_task(chance, 20) for _ in range(chance.randint(0, 2))]
        chance.shuffle(tasks)
        if common_period(tasks) <= most_period:
            return tasks + chance.choice([[], tasks[:1]])


def light_tasks(chance, most_tasks=3, most_period=100):
    """A list of a few tasks that ask for little: small costs, wide gaps, late deadlines."""
    while True:
        tasks = [light_task(chance, f"t{number}") for number in range(chance.randint(0, most_tasks))]
        tasks += [single_task(chance, 4, 9) for _ in range(chance.randint(0, 2))]
        if common_period(tasks) <= most_period:
            return tasks


def light_task(chance, name):
    kinds = [(kind, chance.randint(1, 3), chance.randint(6, 24)) for kind in "ab"]
    pairs = chance.sample([("a", "a"), ("a", "b"), ("b", "a"), ("b", "b")], chance.randint(1, 4))
    return Task(name, kinds, [(first, second, chance.randint(9, 12)) for first, second in pairs])


def single_task(chance, most_cost=99, least_deadline=1):
    return Task.single("s", chance.randint(1, most_cost), chance.randint(least_deadline, 99))


def plain_task(chance, most_cost=99, most_deadline=99):
    """A task with one to four kinds and no arrow."""
    names = "abcd"[:chance.randint(1, 4)]
    return Task("plain", [(name, chance.randint(1, most_cost), chance.randint(1, most_deadline)) for name in names])


def lines_run(call, *args, **more):
    """How many lines of Python a call runs: the same count each time, unlike the time that it takes."""
    count = 0

    def trace(frame, event, value):
        nonlocal count
        count += event == "line"
        return trace

    before = sys.gettrace()
    sys.settrace(trace)
    try:
        call(*args, **more)
    finally:
        sys.settrace(before)
    return count


def play(run, key, speed, calendar="1", begin=0):
    """The schedule unit by unit, as the document says it."""
    jobs = run.jobs
    left = [job[4] for job in jobs]
    worked = []
    unit = 0
    while any(left):
        tick = begin + unit // (run.grain * speed)
        ready = [(key(jobs[at]), at) for at in range(len(jobs)) if left[at] > 0 and jobs[at][3] * speed <= unit]
        if ready and calendar[tick % len(calendar)] == "1":
            at = min(ready)[1]
            left[at] -= 1
            worked.append((unit, at))
        unit += 1
    return joined(worked)


def joined(worked):
    """The slices of the units (unit, index) in which there is work."""
    slices = []
    for unit, index in worked:
        if slices and slices[-1][1] == unit and slices[-1][2] == index:
            slices[-1] = (slices[-1][0], unit + 1, index)
        else:
            slices.append((unit, unit + 1, index))
    return slices
