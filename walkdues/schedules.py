"""Schedules: when the processor works on which job of a run, and how late the jobs are."""

from heapq import heappop, heappush

from walkdues.errors import EmptySlice, Overlap, TooEarly, UnknownJob, WrongAmount
from walkdues.tasks import check_range

GREATEST_SPEED = 99


def run_by(run, key, *, speed=1):
    """The schedule that always works on the released and unfinished job with the least key."""
    check_range("speed", speed, GREATEST_SPEED)
    jobs = run.jobs
    return least_key_first(jobs, [job[3] * speed for job in jobs], [key(job) for job in jobs])


def earliest_deadline(run, *, speed=1):
    """The schedule that always works on the released and unfinished job that is due first."""
    return run_by(run, lambda job: job[5], speed=speed)


def least_key_first(jobs, releases, keys):
    """The slices in which the jobs of a run, released at these units, are worked on, if the least key goes first."""
    slices = []
    waiting = []
    left = [job[4] for job in jobs]
    # The last stretch is long enough for all work.
    stops = releases[1:] + [max(releases, default=0) + sum(left)]
    for index, (now, stop) in enumerate(zip(releases, stops)):
        heappush(waiting, (keys[index], index))
        while waiting and now < stop:
            current = waiting[0][1]
            end = min(now + left[current], stop)
            add_slice(slices, now, end, current)
            left[current] -= end - now
            if left[current] == 0:
                heappop(waiting)
            now = end
    return slices


def add_slice(slices, start, end, index):
    """Adds a slice at the end of a schedule, as a part of the last slice if that is of this job and touches it."""
    if slices and slices[-1][1:] == (start, index):
        start = slices.pop()[0]
    slices.append((start, end, index))


def job_lateness(run, schedule, *, speed=1):
    """The lateness of each job in units, after the check of the schedule."""
    check_range("speed", speed, GREATEST_SPEED)
    jobs = run.jobs
    check_slices(jobs, schedule, speed)
    check_amounts(jobs, schedule)
    # The slices are in ascending order, so the last one of each job decides.
    ends = {index: end for _, end, index in schedule}
    return [ends[index] - job[5] * speed for index, job in enumerate(jobs)]


def worst_lateness(run, schedule, *, speed=1):
    """The greatest lateness of a job in units, after the check of the schedule; None without jobs."""
    return max(job_lateness(run, schedule, speed=speed), default=None)


def check_slices(jobs, schedule, speed):
    """Raises an error for the first slice that may not stand where it stands."""
    for place, (start, end, index) in enumerate(schedule):
        if not 0 <= index < len(jobs):
            raise UnknownJob(place)
        if end <= start:
            raise EmptySlice(place)
        if place > 0 and start < schedule[place - 1][1]:
            raise Overlap(place)
        if start < jobs[index][3] * speed:
            raise TooEarly(place)


def check_amounts(jobs, schedule):
    """Raises an error for the first job whose slices do not add up to its cost."""
    done = [0] * len(jobs)
    for start, end, index in schedule:
        done[index] += end - start
    for index, job in enumerate(jobs):
        if done[index] != job[4]:
            raise WrongAmount(index)
