"""Cycles of tasks: how much work a task asks for per tick in the long run."""

from itertools import permutations
from math import gcd, lcm


def simple_cycles(task):
    """The tuples (kinds, cost, length) of all cycles, by the number of kinds and then by their places in the task."""
    names = [kind[0] for kind in task.kinds]
    cycles = []
    for size in range(1, len(names) + 1):
        for order in permutations(range(len(names)), size):
            kinds = tuple([names[place] for place in order])
            # Of the sequences that are one cycle, the one that begins with its first kind stands for it.
            if order[0] == min(order) and is_cycle(task, kinds):
                cycles.append((kinds, cycle_cost(task, kinds), cycle_length(task, kinds)))
    return cycles


def is_cycle(task, kinds):
    """Tells whether a tuple of strings is a cycle of the task, begun anywhere."""
    if kinds == () or len(set(kinds)) < len(kinds):
        return False
    gaps = gaps_of(task)
    return all([pair in gaps for pair in steps_around(kinds)])


def cycle_cost(task, kinds):
    """The sum of the costs of the kinds of a cycle."""
    return sum([task.cost_of(kind) for kind in kinds])


def cycle_length(task, kinds):
    """The sum of the gaps of a cycle."""
    gaps = gaps_of(task)
    return sum([gaps[pair] for pair in steps_around(kinds)])


def gaps_of(task):
    """The gaps of the arrows by their pairs of kinds."""
    return {(first, second): gap for first, second, gap in task.arrows}


def steps_around(kinds):
    """The pairs of each kind and the next one, and of the last kind and the first."""
    return list(zip(kinds, kinds[1:] + kinds[:1]))


def rate(task, kind):
    """The greatest cost / length of a cycle that is reached from a kind, as a tuple in lowest terms."""
    return greatest_ratio(simple_cycles(task), reached_from(task, kind))


def rates(task):
    """The rate of each kind."""
    cycles = simple_cycles(task)
    return {kind[0]: greatest_ratio(cycles, reached_from(task, kind[0])) for kind in task.kinds}


def reached_from(task, kind):
    """The kinds that are reached from a kind, this one included."""
    reached = [kind]
    done = 0
    while done < len(reached):
        for second, _ in task.followers(reached[done]):
            if second not in reached:
                reached.append(second)
        done += 1
    return reached


def greatest_ratio(cycles, reached):
    """The greatest cost / length of those cycles whose kinds are reached, and 0 if there is none."""
    best = (0, 1)
    for kinds, cost, length in cycles:
        # The first kind decides, since each kind of a cycle is reached from each other one.
        if kinds[0] in reached and cost * best[1] > best[0] * length:
            best = (cost, length)
    return lowest_terms(best[0], best[1])


def lowest_terms(numerator, denominator):
    """A fraction with a positive denominator, in lowest terms."""
    divisor = gcd(numerator, denominator)
    return (numerator // divisor, denominator // divisor)


def with_arrows(tasks):
    """The tasks that have arrows: no others have cycles, and in a long list they are few."""
    return [task for task in tasks if task.arrows]


def utilization(tasks):
    """The sum of the utilizations of the tasks, as a tuple in lowest terms."""
    total = (0, 1)
    for task in with_arrows(tasks):
        cost, length = greatest_ratio(simple_cycles(task), [kind[0] for kind in task.kinds])
        total = lowest_terms(total[0] * length + cost * total[1], total[1] * length)
    return total


def critical_cycles(task):
    """The cycles whose cost / length is the rate of their kinds, in the order of simple_cycles."""
    found = rates(task)
    return [cycle for cycle in simple_cycles(task) if lowest_terms(cycle[1], cycle[2]) == found[cycle[0][0]]]


def common_period(tasks):
    """The least common multiple of the lengths of all critical cycles of the tasks."""
    period = 1
    for task in with_arrows(tasks):
        for cycle in critical_cycles(task):
            period = lcm(period, cycle[2])
    return period


def heights(task):
    """The height of each kind: the most that its arrows can add above the utilization."""
    levels = {kind[0]: 0 for kind in task.kinds}
    ratio = utilization([task])
    # No cycle adds anything, so a sequence of arrows that adds the most goes through no kind twice.
    for _ in range(len(levels) - 1):
        levels = raised_levels(task, ratio, levels)
    return levels


def raised_levels(task, ratio, levels):
    """The levels that sequences with one more arrow reach."""
    raised = dict(levels)
    for first, second, weight in weighted_arrows(task, ratio):
        raised[first] = max(raised[first], weight + levels[second])
    return raised


def weighted_arrows(task, ratio):
    """For each arrow its two kinds and what it adds above the ratio."""
    numerator, denominator = ratio
    return [
        (first, second, denominator * task.cost_of(first) - numerator * gap)
        for first, second, gap in task.arrows
    ]


def utilization_holds(task, ratio, cycle, levels):
    """Tells whether a cycle and levels for the kinds show that the utilization of the task is the ratio."""
    numerator, denominator = ratio
    if numerator < 0 or denominator <= 0:
        return False
    return cycle_reaches(task, ratio, cycle) and levels_bound(task, ratio, levels)


def cycle_reaches(task, ratio, cycle):
    """Tells whether the utilization is at least the ratio because of the cycle."""
    numerator, denominator = ratio
    if cycle is None:
        return numerator == 0
    if not is_cycle(task, cycle):
        return False
    return denominator * cycle_cost(task, cycle) == numerator * cycle_length(task, cycle)


def levels_bound(task, ratio, levels):
    """Tells whether the utilization is at most the ratio because of the levels."""
    names = [kind[0] for kind in task.kinds]
    if sorted(list(levels)) != sorted(names) or any([level < 0 for level in levels.values()]):
        return False
    return all([
        weight + levels[second] <= levels[first]
        for first, second, weight in weighted_arrows(task, ratio)
    ])
