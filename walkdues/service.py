"""Service: what a processor does at least, if it works in the open ticks of a calendar only."""

from walkdues.errors import BadCalendar, OutOfRange
from walkdues.rows import Row
from walkdues.schedules import GREATEST_SPEED, add_slice, least_key_first
from walkdues.tasks import check_range

MOST_TICKS = 24


def calendar_row(calendar, *, speed=1):
    """The service of a processor of this speed with a calendar."""
    check_calendar(calendar)
    check_range("speed", speed, GREATEST_SPEED)
    length = len(calendar)
    least = [speed * min(open_counts(calendar, ticks)) for ticks in range(length)]
    return Row(least, length, speed * calendar.count("1"))


def worst_begin(calendar, ticks):
    """The least begin in a calendar with which no other begin has fewer open ticks among so many ticks."""
    check_calendar(calendar)
    # Whole turns have the same open ticks for every begin.
    counts = open_counts(calendar, ticks % len(calendar))
    return counts.index(min(counts))


def open_counts(calendar, ticks):
    """For each begin in a calendar the number of open ticks among so many ticks, at most those of one turn."""
    two_turns = calendar + calendar
    return [two_turns[begin:begin + ticks].count("1") for begin in range(len(calendar))]


def check_calendar(calendar):
    """Raises BadCalendar unless the string is a calendar."""
    if not is_calendar(calendar):
        raise BadCalendar(calendar)


def is_calendar(text):
    """Tells whether a string is a calendar."""
    if len(text) > MOST_TICKS or "1" not in text:
        return False
    return all([mark in "01" for mark in text])


def calendar_slices(run, calendar, key, *, begin=0, speed=1):
    """The schedule that works in open ticks on the released and unfinished job with the least key."""
    check_calendar(calendar)
    check_range("speed", speed, GREATEST_SPEED)
    if begin < 0:
        raise OutOfRange("begin", begin)
    units = OpenUnits(calendar, begin, run.grain * speed)
    jobs = run.jobs
    releases = [units.count_before(job[3] * speed) for job in jobs]
    slices = []
    # Counted in open units alone, the processor works as one that always works.
    for first, last, index in least_key_first(jobs, releases, [key(job) for job in jobs]):
        for start, end in units.stretches_of(first, last):
            add_slice(slices, start, end, index)
    return slices


class OpenUnits:
    """The units of the open ticks, counted without those of the closed ticks. It never changes."""

    def __init__(self, calendar, begin, tick):
        turn = begin % len(calendar)
        self._marks = calendar[turn:] + calendar[:turn]
        self._places = [place for place, mark in enumerate(self._marks) if mark == "1"]
        self._tick = tick

    def count_before(self, unit):
        """The number of open units before a unit."""
        ticks, rest = divmod(unit, self._tick)
        turns, place = divmod(ticks, len(self._marks))
        whole = turns * len(self._places) + self._marks[:place].count("1")
        return whole * self._tick + (rest if self._marks[place] == "1" else 0)

    def stretches_of(self, first, last):
        """For each open tick with some of the open units from first to last the tuple (start, end) of these units."""
        stretches = []
        while first < last:
            number, rest = divmod(first, self._tick)
            turns, at = divmod(number, len(self._places))
            start = (turns * len(self._marks) + self._places[at]) * self._tick + rest
            length = min(last - first, self._tick - rest)
            stretches.append((start, start + length))
            first += length
        return stretches
