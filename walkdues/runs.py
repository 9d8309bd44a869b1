"""Runs: one walk of each task, and the jobs that the walks make."""

from walkdues.errors import BadCost, BadRelease, GapTooShort, NoArrow
from walkdues.tasks import check_count, check_range

GREATEST_GRAIN = 60
MOST_JOBS = 400


class Run:
    """A run of a list of tasks, with its grain and its jobs. It never changes."""

    def __init__(self, tasks, walks, *, grain=1):
        check_range("grain", grain, GREATEST_GRAIN)
        check_count("walks", len(walks), len(tasks), len(tasks))
        check_count("jobs", sum([len(walk) for walk in walks]), 0, MOST_JOBS)
        self.grain = grain
        self._jobs = checked_jobs(tasks, walks, grain)

    @property
    def jobs(self):
        """The tuples (task, place, kind, release, cost, due) of the jobs, by release, task and place."""
        return list(self._jobs)


def checked_jobs(tasks, walks, grain):
    """The sorted jobs of the walks, after the check of each one."""
    jobs = []
    for number, (task, walk) in enumerate(zip(tasks, walks)):
        for place, (kind, release, cost) in enumerate(walk):
            # Looked up first, since an unknown kind is told before all else.
            full_cost = grain * task.cost_of(kind)
            if not 1 <= cost <= full_cost:
                raise BadCost(number, place)
            check_release(task, walk, place, number=number, grain=grain)
            due = release + grain * task.deadline_of(kind)
            jobs.append((number, place, kind, release, cost, due))
    return sorted(jobs, key=lambda job: (job[3], job[0], job[1]))


def check_release(task, walk, place, *, number=0, grain=1):
    """Raises an error unless the job at this place of a walk may be released when it is.

    The walk is a list of tuples that begin with a kind and a release; the kinds up to this place are known.
    """
    kind, release = walk[place][:2]
    if release < 0:
        raise BadRelease(number, place)
    if place == 0:
        return
    before, release_before = walk[place - 1][:2]
    gap = dict(task.followers(before)).get(kind)
    if gap is None:
        raise NoArrow(number, place)
    if release - release_before < grain * gap:
        raise GapTooShort(number, place)
