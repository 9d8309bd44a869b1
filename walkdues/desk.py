"""Desk: a list of admitted tasks that are never late, with what was done to it."""

from walkdues.errors import Absent, NothingToUndo, Present, Refused
from walkdues.leftover import leftover_of


class Desk:
    """Admitted tasks that are never late with a service, and the log of the deeds."""

    def __init__(self, *, service=None):
        self._service = service
        self._admitted = []
        self._left = leftover_of([], service)
        # The admitted tasks and what is left beside them, before each deed that is not taken back.
        self._before = []
        self._log = []

    @property
    def names(self):
        """The names of the admitted tasks, in order."""
        return [task.name for task in self._admitted]

    @property
    def log(self):
        """The tuples that tell what was done, in order."""
        return list(self._log)

    def admit(self, task):
        """Admits a task, unless the admitted tasks could be late together with it."""
        self.admit_all([task])

    def admit_all(self, tasks):
        """Admits all tasks of a list, or none if one of them cannot be admitted."""
        admitted = list(self._admitted)
        left = self._left
        for task in tasks:
            if task.name in [other.name for other in admitted]:
                raise Present(task.name)
            left = left.beside(task)
            self._check_excess(task, left.first_excess())
            admitted.append(task)
        self._change(admitted, left)
        for task in tasks:
            self._log.append(("admit", task.name))

    def leave(self, name):
        """Takes the admitted task with this name out of the list."""
        if name not in self.names:
            raise Absent(name)
        rest = [task for task in self._admitted if task.name != name]
        self._change(rest, leftover_of(rest, self._service))
        self._log.append(("leave", name))

    def undo(self):
        """Takes back the last deed that has not been taken back."""
        if not self._before:
            raise NothingToUndo()
        self._admitted, self._left = self._before.pop()
        self._log.append(("undo",))

    def slack(self):
        """The slack row of the admitted tasks."""
        return self._left.slack()

    def room(self, deadline):
        """The greatest cost with which one more job with this deadline fits beside the admitted tasks."""
        slack = self.slack()
        return slack(deadline)

    def _check_excess(self, task, excess):
        """Raises Refused, which is logged, if there is an excess with the task."""
        if excess is not None:
            ticks, amount = excess
            self._log.append(("refuse", task.name, ticks))
            raise Refused(task.name, ticks, amount)

    def _change(self, admitted, left):
        """Makes these the admitted tasks, by a deed that can be taken back."""
        self._before.append((self._admitted, self._left))
        self._admitted = admitted
        self._left = left
