"""Demand: the most work that tasks can ask for within a number of ticks, and walks that ask for it."""

from walkdues.runs import Run, check_release


def kind_demands(task, ticks):
    """For each kind its demands at 0, 1, .., ticks."""
    tables = {kind[0]: [] for kind in task.kinds}
    plans = []
    for name, cost, deadline in task.kinds:
        steps = [(tables[second], gap) for second, gap in task.followers(name)]
        plans.append((tables[name], cost, deadline, steps))
    for moment in range(ticks + 1):
        for table, cost, deadline, steps in plans:
            behind = 0
            for following, gap in steps:
                if gap <= moment and following[moment - gap] > behind:
                    behind = following[moment - gap]
            table.append(behind + cost if deadline <= moment else behind)
    return tables


def task_demands(task, ticks):
    """The demands of a task at 0, 1, .., ticks."""
    tables = list(kind_demands(task, ticks).values())
    return [max(column) for column in zip(*tables)]


def demand(tasks, ticks):
    """The demands of a list of tasks at 0, 1, .., ticks."""
    totals = [0] * (ticks + 1)
    for task in tasks:
        totals = [total + more for total, more in zip(totals, task_demands(task, ticks))]
    return totals


def heavy_walk(task, ticks):
    """A walk from the moment 0 whose jobs that are due at ticks or earlier cost the demand of the task."""
    tables = kind_demands(task, ticks)
    walk = []
    moment = 0
    # Each step is a tuple (demand from there on, kind, gap); at first every kind may be released at once.
    steps = [(table[ticks], kind, 0) for kind, table in tables.items()]
    while steps and max(steps)[0] > 0:
        _, kind, gap = max(steps)
        moment += gap
        walk.append((kind, moment))
        left = ticks - moment
        steps = [(tables[second][left - gap], second, gap) for second, gap in task.followers(kind) if gap <= left]
    return walk


def walk_demand(task, walk, ticks):
    """The full costs of the jobs of a walk that are due at ticks or earlier, after the check of each job."""
    total = 0
    for place, (kind, release) in enumerate(walk):
        # Looked up first, since an unknown kind is told before all else.
        cost = task.cost_of(kind)
        check_release(task, walk, place)
        if release + task.deadline_of(kind) <= ticks:
            total += cost
    return total


def heavy_run(tasks, ticks):
    """A run with the walk of heavy_walk and full costs for each task."""
    return Run(tasks, [full_walk(task, heavy_walk(task, ticks)) for task in tasks])


def full_walk(task, walk):
    """The walk with the full cost of each job."""
    return [(kind, release, task.cost_of(kind)) for kind, release in walk]
