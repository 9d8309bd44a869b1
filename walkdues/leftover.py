"""Leftover: what a service leaves beside tasks, kept for more tasks to be judged."""

from math import lcm

from walkdues.closed import demand_row, task_row
from walkdues.cycles import common_period
from walkdues.rows import PERIOD_LIMIT, check_period
from walkdues.verdicts import excess_of, service_or_plain


class Leftover:
    """The period of a service and some tasks, and the row of what the service leaves beside them. It never changes."""

    def __init__(self, period, row):
        self._period = period
        self._row = row

    def beside(self, task):
        """What is left with one more task; raises TooLong if the period of all together is above the limit."""
        period = lcm(self._period, common_period([task]))
        check_period(period)
        return Leftover(period, self._row.minus(task_row(task)))

    def takes(self, task):
        """Tells whether the tasks together with one more are never late."""
        return self.beside(task).first_excess() is None

    def first_excess(self):
        """The first excess of the tasks with the service; None if they are never late."""
        return excess_of(self._row)

    def slack(self):
        """The slack row of the tasks, which are never late; raises TooLong as beside does."""
        check_period(self._period)
        return self._row.lowest_ahead()


def leftover_of(tasks, service):
    """What a service, or the one of speed 1 for None, leaves beside tasks."""
    supply = service_or_plain(service)
    period = lcm(common_period(tasks), supply.period)
    # A period above the limit is not told here but where it is asked for more, with the period of all together.
    row = supply.minus(demand_row(tasks)) if period <= PERIOD_LIMIT else None
    return Leftover(period, row)
