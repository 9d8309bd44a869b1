"""Closed rows: the demand of tasks at every tick, told by a first part, a period and a gain."""

from walkdues.cycles import common_period, rates, with_arrows
from walkdues.demand import kind_demands, task_demands
from walkdues.rows import Row, check_period


def closing_holds(task, start, period, gains):
    """Tells whether start, period and gains are a closing of the task."""
    if period < 1 or start < earliest_start(task) or not gains_hold(task, gains):
        return False
    tables = kind_demands(task, start + period - 1)
    choices = choices_of(task, tables, gains)
    before = range(start - greatest_gap(task), start)
    behind = range(start, start + period)
    return (
        all([repeats_at(tables, moment, period, gains) for moment in before])
        and all([chooses_at(choices, moment) for moment in behind])
    )


def greatest_gap(task):
    """The greatest gap of a task, 0 if it has no arrow."""
    return max([arrow[2] for arrow in task.arrows], default=0)


def earliest_start(task):
    """The least start that a closing of a task may have."""
    return greatest_gap(task) + max([kind[2] for kind in task.kinds])


def gains_hold(task, gains):
    """Tells whether gains has just the kinds as keys, and values that go down along the arrows and end at 0."""
    names = [kind[0] for kind in task.kinds]
    if sorted(list(gains)) != sorted(names):
        return False
    ends = [name for name in names if task.followers(name) == []]
    return (
        all([gains[name] == 0 for name in ends])
        and all([gains[second] <= gains[first] for first, second, _ in task.arrows])
    )


def repeats_at(tables, moment, period, gains):
    """Tells whether the demand of each kind is higher by its gain one period after a moment."""
    return all([table[moment + period] == table[moment] + gains[kind] for kind, table in tables.items()])


def choices_of(task, tables, gains):
    """For each kind with followers all its arrows and those to a follower with its own gain, as (table, gap)."""
    choices = []
    for name in tables:
        steps = [(tables[second], gap) for second, gap in task.followers(name)]
        kept = [(tables[second], gap) for second, gap in task.followers(name) if gains[second] == gains[name]]
        if steps:
            choices.append((steps, kept))
    return choices


def chooses_at(choices, moment):
    """Tells whether at a moment each kind with followers has a best arrow to a follower with its own gain."""
    return all([best_at(kept, moment) == best_at(steps, moment) for steps, kept in choices])


def best_at(steps, moment):
    """The greatest demand behind one of the arrows at a moment; None without arrows."""
    return max([table[moment - gap] for table, gap in steps], default=None)


def closing(task):
    """The closing (start, period, gains) with the common period, the rates as gains and the least start."""
    period = common_period([task])
    check_period(period)
    gains = {kind: ratio[0] * period // ratio[1] for kind, ratio in rates(task).items()}
    return (closing_start(task, period, gains), period, gains)


def closing_start(task, period, gains):
    """The least start that makes a closing with the common period and the gains that belong to it."""
    earliest = earliest_start(task)
    start = earliest + period
    # Some start makes a closing, and then each later one does.
    while not closing_holds(task, start, period, gains):
        start = 2 * start
    tables = kind_demands(task, start + period - 1)
    choices = choices_of(task, tables, gains)
    before = greatest_gap(task) + 1
    while start > earliest and repeats_at(tables, start - before, period, gains) and chooses_at(choices, start - 1):
        start -= 1
    return start


def task_row(task):
    """The row of the demands of a task."""
    if not task.arrows:
        return plain_row([task])
    start, period, gains = closing(task)
    most = max(gains.values())
    leaders = [kind for kind in gains if gains[kind] == most]
    # A kind with a lesser gain can have the greatest demand for long, but not without end.
    while not all_led(kind_demands(task, start + period - 1), leaders, start):
        start = 2 * start
    return Row(task_demands(task, start + period - 1), period, most)


def all_led(tables, leaders, start):
    """Tells whether at each moment from start on one of the leaders has the greatest demand of all kinds."""
    greatest = [max(column) for column in columns_from(list(tables.values()), start)]
    return greatest == [max(column) for column in columns_from([tables[kind] for kind in leaders], start)]


def columns_from(tables, start):
    """For each moment from start on the tuple of the demands in the tables."""
    parts = [table[start:] for table in tables]
    return list(zip(*parts))


def demand_row(tasks):
    """The row of the demands of a list of tasks."""
    check_period(common_period(tasks))
    total = plain_row([task for task in tasks if not task.arrows])
    # A sum is as long as its longest part, so the long rows come last.
    for row in sorted([task_row(task) for task in with_arrows(tasks)], key=lambda row: row.start + row.period):
        total = total + row
    return total


def plain_row(tasks):
    """The row of the demands of tasks without arrows."""
    rises = {}
    for task in tasks:
        asked = 0
        # A walk has one job at most, so of the kinds that are due only the greatest cost counts.
        for _, cost, deadline in sorted(task.kinds, key=lambda kind: kind[2]):
            if cost > asked:
                rises[deadline] = rises.get(deadline, 0) + cost - asked
                asked = cost
    total = 0
    head = []
    for moment in range(max(list(rises), default=0) + 1):
        total += rises.get(moment, 0)
        head.append(total)
    return Row(head, 1, 0)
