"""Backlog: how much work can be requested, and how much of it can be left unfinished."""

from walkdues.closed import demand_row
from walkdues.demand import full_walk, heavy_walk
from walkdues.rows import Row
from walkdues.runs import Run
from walkdues.schedules import job_lateness, run_by
from walkdues.tasks import Task
from walkdues.verdicts import steady_service


def request_row(tasks):
    """The row of the most work that the tasks can release within each t."""
    demands = demand_row([prompt_task(task) for task in tasks])
    head = [demands(ticks + 1) for ticks in range(demands.start + demands.period)]
    return Row(head, demands.period, demands.gain)


def prompt_task(task):
    """The task with all deadlines 1: what it releases at t or earlier is due at t + 1 or earlier."""
    return Task(task.name, [(name, cost, 1) for name, cost, _ in task.kinds], task.arrows)


def piling_run(tasks, ticks):
    """A run with full costs that releases as much work as the tasks can within these ticks, and nothing later."""
    walks = [full_walk(task, heavy_walk(prompt_task(task), ticks + 1)) for task in tasks]
    return Run(tasks, walks)


def unfinished(run, schedule, *, speed=1):
    """For each release the tuple (moment, amount) with the work that is left just after it."""
    # Called for its checks of the speed and of the schedule.
    job_lateness(run, schedule, speed=speed)
    requested = {}
    total = 0
    for job in run.jobs:
        total += job[4]
        requested[job[3] * speed] = total
    moments = list(requested)
    works = works_before(schedule, moments)
    return [(moment, requested[moment] - work) for moment, work in zip(moments, works)]


def works_before(schedule, moments):
    """For each of the ascending moments, at which jobs are released, the work that the slices do before it."""
    works = []
    ended = 0
    place = 0
    for moment in moments:
        # There is a slice that ends later, since a job that is released now is worked on later.
        while schedule[place][1] <= moment:
            ended += schedule[place][1] - schedule[place][0]
            place += 1
        works.append(ended + max(0, moment - schedule[place][0]))
    return works


def greatest_backlog(tasks, *, speed=1):
    """The greatest difference of request and work over all t, with the least such t; None without tasks."""
    supply = steady_service(tasks, speed)
    if not tasks:
        return None
    # The utilization is at most the speed, so behind the head no difference is above the one a period before it.
    differences = request_row(tasks).minus(supply).head
    most = max(differences)
    return (most, differences.index(most))


def first_come(run, *, speed=1):
    """The schedule that always works on the unfinished job that was released first."""
    return run_by(run, lambda job: job[3], speed=speed)


def greatest_response(run, schedule, *, speed=1):
    """The greatest time in units from the release of a job to its end, after the check of the schedule."""
    lateness = job_lateness(run, schedule, speed=speed)
    # A job is late by its response minus its deadline.
    responses = [late + (job[5] - job[3]) * speed for late, job in zip(lateness, run.jobs)]
    return max(responses, default=None)
