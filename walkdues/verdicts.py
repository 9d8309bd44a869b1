"""Verdicts: whether tasks can be late with a service, how late, and what the service leaves beside them."""

from math import lcm

from walkdues.closed import demand_row
from walkdues.cycles import common_period, lowest_terms, utilization
from walkdues.errors import Overloaded
from walkdues.rows import Row, check_period, first_below, first_negative
from walkdues.schedules import GREATEST_SPEED
from walkdues.tasks import check_range


def service_or_plain(service):
    """The service, or for None the one of a processor of speed 1 that always works."""
    return Row.steady(1) if service is None else service


def checked_service(tasks, service):
    """The service to take, after the check of the common period of the tasks and of its own."""
    supply = service_or_plain(service)
    check_period(lcm(common_period(tasks), supply.period))
    return supply


def first_excess(tasks, *, service=None):
    """The least t at which the demand is above the service, with the difference there; None if there is none."""
    supply = checked_service(tasks, service)
    return excess_of(supply.minus(demand_row(tasks)))


def excess_of(left):
    """The least t at which less than nothing is left, with what lacks there; None if there is none."""
    ticks = first_negative(left)
    return None if ticks is None else (ticks, -left(ticks))


def never_late(tasks, *, service=None):
    """Tells whether the demand of the tasks is at most the service at every t."""
    return first_excess(tasks, service=service) is None


def slack_row(tasks, *, service=None):
    """The row of the least that the service leaves of itself from each t on."""
    supply = checked_service(tasks, service)
    check_load(tasks, supply)
    return supply.minus(demand_row(tasks)).lowest_ahead()


def check_load(tasks, supply):
    """Raises Overloaded if the tasks ask for more in the long run than the service does."""
    cost, length = utilization(tasks)
    if cost * supply.period > supply.gain * length:
        raise Overloaded(cost, length)


def steady_service(tasks, speed):
    """The service of a processor that always works, after the check that it does enough in the long run."""
    check_range("speed", speed, GREATEST_SPEED)
    supply = checked_service(tasks, Row.steady(speed))
    check_load(tasks, supply)
    return supply


def greatest_lateness(tasks, *, speed=1):
    """The greatest difference of demand and work over all t with a demand, and the least such t; None without tasks."""
    supply = steady_service(tasks, speed)
    if not tasks:
        return None
    demands = demand_row(tasks)
    begin = first_below(Row.steady(0), demands)
    # The utilization is at most the speed, so behind the start no difference is above the one a period before it.
    end = max(begin, demands.start) + demands.period
    differences = [demands(ticks) - supply(ticks) for ticks in range(begin, end)]
    most = max(differences)
    return (most, begin + differences.index(most))


def least_speed(tasks):
    """The least fraction r, in lowest terms, such that the demand is at most r * t at every t."""
    demands = demand_row(tasks)
    # From one period to the next, demand / t only gets nearer to the utilization.
    cost, ticks = utilization(tasks)
    for index, value in enumerate(demands.head):
        if value * ticks > cost * index:
            cost, ticks = value, index
    return lowest_terms(cost, ticks)
