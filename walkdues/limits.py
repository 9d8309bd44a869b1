"""Limits: how far one number of one task may go before the list of tasks can be late."""

from walkdues.errors import OutOfRange, UnknownArrow
from walkdues.leftover import leftover_of
from walkdues.tasks import GREATEST_GAP, Task, check_known, limits_for


def greatest_cost_of(tasks, index, kind, *, service=None):
    """The greatest cost of a kind up to which the list is never late; None if it can be late with the cost 1."""
    task = task_at(tasks, index)
    deadline = task.deadline_of(kind)
    left = leftover_of(others_than(tasks, index), service)
    greatest = None
    for cost in range(1, limits_for(task.arrows)[0] + 1):
        if not left.takes(with_kind(task, (kind, cost, deadline))):
            return greatest
        greatest = cost
    return greatest


def least_deadline_of(tasks, index, kind, *, service=None):
    """The least deadline of a kind with which the list is never late; None if there is none."""
    task = task_at(tasks, index)
    cost = task.cost_of(kind)
    deadlines = range(1, limits_for(task.arrows)[1] + 1)
    changed = [with_kind(task, (kind, cost, deadline)) for deadline in deadlines]
    return first_taken(leftover_of(others_than(tasks, index), service), changed)


def least_gap_of(tasks, index, first, second, *, service=None):
    """The least gap of an arrow with which the list is never late; None if there is none."""
    task = task_at(tasks, index)
    followers = [follower for follower, _ in task.followers(first)]
    check_known(second, [kind[0] for kind in task.kinds])
    if second not in followers:
        raise UnknownArrow(first, second)
    changed = [with_arrow(task, (first, second, gap)) for gap in range(1, GREATEST_GAP + 1)]
    return first_taken(leftover_of(others_than(tasks, index), service), changed)


def task_at(tasks, index):
    """The task with this index."""
    if not 0 <= index < len(tasks):
        raise OutOfRange("index", index)
    return tasks[index]


def others_than(tasks, index):
    """The tasks without the one with this index."""
    return [task for place, task in enumerate(tasks) if place != index]


def with_kind(task, changed):
    """The task with this kind in the place of the one of the same name."""
    kinds = [changed if kind[0] == changed[0] else kind for kind in task.kinds]
    return Task(task.name, kinds, task.arrows)


def with_arrow(task, changed):
    """The task with this arrow in the place of the one between the same kinds."""
    arrows = [changed if arrow[:2] == changed[:2] else arrow for arrow in task.arrows]
    return Task(task.name, task.kinds, arrows)


def first_taken(left, tasks):
    """The number, counted from 1, of the first task that what is left takes; None if there is none."""
    for number, task in enumerate(tasks, start=1):
        if left.takes(task):
            return number
    return None


def succession(first, second, gap):
    """The task that does what the first one does, and then may go on as the second one."""
    bridges = [(kind[0], follower[0], gap) for kind in first.kinds for follower in second.kinds]
    return Task(first.name, first.kinds + second.kinds, first.arrows + second.arrows + bridges)


def least_switch(first, second, rest, *, service=None):
    """The least gap with which the rest and the succession of two tasks are never late; None if there is none."""
    changed = [succession(first, second, gap) for gap in range(1, GREATEST_GAP + 1)]
    return first_taken(leftover_of(rest, service), changed)
