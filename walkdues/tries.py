"""Tries told back: which answers to tries go together, and lists of tasks that give these answers."""

from walkdues.errors import Clash, NotOpen
from walkdues.schedules import GREATEST_SPEED
from walkdues.tasks import Task, check_range

GREATEST_DEADLINE = 99


def answering_set(tries, *, speed=1):
    """Tasks with one kind each, without arrows, that answer the tries."""
    check_tries(tries, speed)
    return leanest_set(tries, speed)


def check_tries(tries, speed):
    """Raises an error if the speed is out of its range or if an admitted try clashes."""
    check_range("speed", speed, GREATEST_SPEED)
    for index, (cost, deadline, admitted) in enumerate(tries):
        if admitted and cost > speed * deadline:
            raise Clash(index, None)
        if admitted:
            check_refused(tries, index, speed)


def check_refused(tries, index, speed):
    """Raises Clash if the admitted try with this index clashes with a refused one."""
    cost, deadline = tries[index][:2]
    for other, (other_cost, other_deadline, admitted) in enumerate(tries):
        if not admitted and other_cost <= needed_slack(cost, deadline, other_deadline, speed):
            raise Clash(index, other)


def needed_slack(cost, deadline, ticks, speed):
    """The slack that there is at least at ticks if a job of this cost and deadline is admitted."""
    return cost - speed * max(0, deadline - ticks)


def least_slack(tries, ticks, speed):
    """The least slack at ticks of the lists that answer the tries."""
    needed = [needed_slack(cost, deadline, ticks, speed) for cost, deadline, admitted in tries if admitted]
    return max([0, *needed])


def greatest_slack(tries, ticks, speed):
    """The greatest slack at ticks of the lists that answer the tries."""
    bounds = [
        cost - 1 + speed * max(0, ticks - deadline) for cost, deadline, admitted in tries if not admitted
    ]
    return min([speed * ticks, *bounds])


def leanest_set(tries, speed):
    """The tasks that have the least slack with which they answer the tries, in which none clashes."""
    slacks = [least_slack(tries, ticks, speed) for ticks in range(GREATEST_DEADLINE + 1)]
    tasks = []
    for ticks in range(1, len(slacks)):
        # What the slack grows by less than the processor works in this tick is asked for by a job.
        cost = speed - (slacks[ticks] - slacks[ticks - 1])
        if cost > 0:
            tasks.append(Task.single(f"t{ticks}", cost, ticks))
    return tasks


def certain_answer(tries, cost, deadline, *, speed=1):
    """What each list that answers the tries says to one more job; None if some admit it and others refuse it."""
    check_tries(tries, speed)
    if cost <= least_slack(tries, deadline, speed):
        return True
    if cost > greatest_slack(tries, deadline, speed):
        return False
    return None


def open_sets(tries, cost, deadline, *, speed=1):
    """Two lists of tasks that answer the tries, of which the first admits one more job and the second refuses it."""
    answer = certain_answer(tries, cost, deadline, speed=speed)
    if answer is not None:
        raise NotOpen(answer)
    # The leanest list refuses what it is not told to admit.
    return (leanest_set([*tries, (cost, deadline, True)], speed), leanest_set(tries, speed))
