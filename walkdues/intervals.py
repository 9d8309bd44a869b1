"""Intervals of a run: how much work must be done from one moment to another."""

from walkdues.schedules import GREATEST_SPEED
from walkdues.tasks import check_range


def interval_demands(run):
    """The tuples (a, b, demand) of the intervals from a release to a due moment in which work must be done."""
    jobs = run.jobs
    dues = sorted({job[5] for job in jobs})
    for begin in sorted({job[3] for job in jobs}):
        costs = costs_by_due(jobs, begin)
        demand = 0
        for due in dues:
            demand += costs.get(due, 0)
            if demand > 0:
                yield (begin, due, demand)


def costs_by_due(jobs, begin):
    """For each due moment of a job that is released at begin or later the costs of these jobs."""
    costs = {}
    for job in jobs:
        if job[3] >= begin:
            costs[job[5]] = costs.get(job[5], 0) + job[4]
    return costs


def heaviest_interval(run, *, speed=1):
    """The tuple (excess, a, b) of the interval with the greatest excess; None without jobs."""
    check_range("speed", speed, GREATEST_SPEED)
    heaviest = None
    for begin, end, demand in interval_demands(run):
        excess = demand - (end - begin) * speed
        # The intervals come in ascending order, so the first one of those with this excess is kept.
        if heaviest is None or excess > heaviest[0]:
            heaviest = (excess, begin, end)
    return heaviest
