"""Company: what fits beside tasks, and whether the same fits beside two lists of them."""

from walkdues.closed import demand_row
from walkdues.cycles import common_period
from walkdues.errors import LateSet
from walkdues.rows import check_period, first_below
from walkdues.verdicts import checked_service, never_late


def fits(tasks, company, *, service=None):
    """Tells whether the tasks of both lists together are never late with the service."""
    return never_late([*tasks, *company], service=service)


def fits_job(tasks, cost, deadline, *, service=None):
    """Tells whether the tasks are never late together with one more job of this cost and deadline."""
    slack = slack_beside(tasks, checked_service(tasks, service))
    return slack is not None and (cost, deadline) in slack


def greatest_cost(tasks, deadline, *, service=None):
    """The greatest cost with which one more job with this deadline fits beside the tasks; 0 if there is none."""
    slack = slack_beside(tasks, checked_service(tasks, service))
    return 0 if slack is None else slack(deadline)


def slack_beside(tasks, supply):
    """The slack row of tasks that are never late with the service; None if they can be late."""
    left = supply.minus(demand_row(tasks))
    if left.gain < 0:
        return None
    slack = left.lowest_ahead()
    return slack if slack(0) == 0 else None


def compare(tasks, others, *, service=None):
    """How what fits beside the tasks differs from what fits beside the others, with a job for each difference."""
    supply = checked_service([*tasks, *others], service)
    slack = slack_beside(tasks, supply)
    if slack is None:
        raise LateSet(1)
    other_slack = slack_beside(others, supply)
    if other_slack is None:
        raise LateSet(2)
    job = job_above(slack, other_slack)
    other_job = job_above(other_slack, slack)
    return (word_for(job, other_job, ("more", "less")), job, other_job)


def job_above(slack, other_slack):
    """The (cost, deadline) with the least deadline that is in the one slack row alone; None if there is none."""
    ticks = first_below(other_slack, slack)
    return None if ticks is None else (slack(ticks), ticks)


def word_for(found, other_found, words):
    """What a comparison is called that found these two; words are for what lets more and what lets less fit."""
    if found is None and other_found is None:
        return "alike"
    if other_found is None:
        return words[0]
    if found is None:
        return words[1]
    return "apart"


def compare_speeds(tasks, others):
    """How what fits beside the two lists differs at whole speeds, with a job and a speed for each difference."""
    check_period(common_period([*tasks, *others]))
    demands = demand_row(tasks)
    other_demands = demand_row(others)
    found = job_below(demands, other_demands)
    other_found = job_below(other_demands, demands)
    return (word_for(found, other_found, ("lighter", "heavier")), found, other_found)


def job_below(demands, other_demands):
    """A (speed, cost, deadline) that fits beside the first demand alone; None if that is nowhere less."""
    ticks = first_below(demands, other_demands)
    if ticks is None:
        return None
    # At a speed above each step of the demand, what is left never falls, so it is just the slack.
    speed = greatest_step(demands) + 1
    return (speed, speed * ticks - demands(ticks), ticks)


def greatest_step(row):
    """The greatest difference from a value of a row to the next one."""
    head = row.head
    following = head[1:] + [row(len(head))]
    return max([after - before for before, after in zip(head, following)])
