"""Tasks: kinds of jobs, and the arrows along which a task releases them."""

from walkdues.errors import BadName, OutOfRange, Repeated, RepeatedArrow, UnknownKind, WrongCount

LETTERS = "abcdefghijklmnopqrstuvwxyz"
NAME_CHARACTERS = "abcdefghijklmnopqrstuvwxyz0123456789_"
LONGEST_NAME = 12

MOST_KINDS = 4
MOST_ARROWS = 12
GREATEST_GAP = 12
# The greatest cost and the greatest deadline of a kind.
LIMITS_WITH_ARROWS = (9, 24)
LIMITS_WITHOUT_ARROWS = (99, 99)


class Task:
    """A task with a name, its kinds of jobs and the arrows between them. It never changes."""

    def __init__(self, name, kinds, arrows=()):
        check_name(name)
        check_count("kinds", len(kinds), 1, MOST_KINDS)
        check_count("arrows", len(arrows), 0, MOST_ARROWS)
        self.name = name
        # The length alone decides on the limits: the arrows themselves are checked after the kinds.
        self._kinds = checked_kinds(kinds, limits_for(arrows))
        self._arrows = checked_arrows(arrows, [kind[0] for kind in self._kinds])

    @staticmethod
    def single(name, cost, deadline):
        """The task with one kind, called job, and no arrow."""
        return Task(name, [("job", cost, deadline)])

    @property
    def kinds(self):
        """The tuples (name, cost, deadline) of the kinds, in their order."""
        return list(self._kinds)

    @property
    def arrows(self):
        """The tuples (first, second, gap) of the arrows, in their order."""
        return list(self._arrows)

    def cost_of(self, kind):
        """The cost of the kind with this name."""
        return self._kind_called(kind)[1]

    def deadline_of(self, kind):
        """The deadline of the kind with this name."""
        return self._kind_called(kind)[2]

    def followers(self, kind):
        """The tuples (second, gap) of the arrows that lead from this kind."""
        # Looked up first, since a kind that the task does not have is an error, not a kind without followers.
        name = self._kind_called(kind)[0]
        return [(second, gap) for first, second, gap in self._arrows if first == name]

    def _kind_called(self, name):
        for kind in self._kinds:
            if kind[0] == name:
                return kind
        raise UnknownKind(name)


def limits_for(arrows):
    """The greatest cost and the greatest deadline of the kinds of a task with these arrows."""
    return LIMITS_WITH_ARROWS if len(arrows) > 0 else LIMITS_WITHOUT_ARROWS


def checked_kinds(kinds, limits):
    """A new list of the kinds, after the check of each one."""
    most_cost, most_deadline = limits
    checked = []
    names = []
    for name, cost, deadline in kinds:
        check_name(name)
        if name in names:
            raise Repeated(name)
        check_range("cost", cost, most_cost)
        check_range("deadline", deadline, most_deadline)
        names.append(name)
        checked.append((name, cost, deadline))
    return checked


def checked_arrows(arrows, names):
    """A new list of the arrows between kinds with these names, after the check of each one."""
    checked = []
    pairs = []
    for first, second, gap in arrows:
        check_known(first, names)
        check_known(second, names)
        check_range("gap", gap, GREATEST_GAP)
        if (first, second) in pairs:
            raise RepeatedArrow(first, second)
        pairs.append((first, second))
        checked.append((first, second, gap))
    return checked


def check_name(name):
    """Raises BadName unless the string is a name."""
    if not is_name(name):
        raise BadName(name)


def is_name(text):
    """Tells whether a string is a name."""
    if not 1 <= len(text) <= LONGEST_NAME:
        return False
    return text[0] in LETTERS and all([character in NAME_CHARACTERS for character in text])


def check_known(kind, names):
    """Raises UnknownKind unless a kind has this name."""
    if kind not in names:
        raise UnknownKind(kind)


def check_count(what, count, least, most):
    """Raises WrongCount unless the count is from least to most."""
    if not least <= count <= most:
        raise WrongCount(what, count)


def check_range(what, number, most):
    """Raises OutOfRange unless the number is from 1 to most."""
    if not 1 <= number <= most:
        raise OutOfRange(what, number)
