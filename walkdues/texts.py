"""Texts of tasks: a line for each task, each kind and each arrow."""

from walkdues.errors import BadLine
from walkdues.tasks import Task

DIGITS = "0123456789"
MOST_DIGITS = 9


def read_tasks(text):
    """The tasks of a text, in the order of their lines."""
    return [Task(name, kinds, arrows) for name, kinds, arrows in read_parts(text)]


def read_parts(text):
    """For each task of a text a tuple (name, kinds, arrows), after the check of every line."""
    lines = text.split("\n")
    # What stands behind the last newline is a line without its newline, if it is anything.
    rest = lines.pop()
    parts = []
    for number, line in enumerate(lines, start=1):
        words = line.split(" ")
        if not has_form(words) or (words[0] != "task" and not parts):
            raise BadLine(number)
        add_words(parts, words)
    if rest != "":
        raise BadLine(len(lines) + 1)
    return parts


def has_form(words):
    """Tells whether the words of a line have one of the three forms."""
    # Split at each single space, a line with a space too many has an empty word.
    if "" in words:
        return False
    if words[0] == "task":
        return len(words) == 2
    if len(words) != 4:
        return False
    if words[0] == "kind":
        return is_number(words[2]) and is_number(words[3])
    return words[0] == "arrow" and is_number(words[3])


def is_number(word):
    """Tells whether a word that is not empty is a number of a text."""
    if len(word) > MOST_DIGITS or not all([character in DIGITS for character in word]):
        return False
    return word == "0" or word[0] != "0"


def add_words(parts, words):
    """Adds what a line tells to the parts of the tasks."""
    if words[0] == "task":
        parts.append((words[1], [], []))
        return
    _, kinds, arrows = parts[-1]
    if words[0] == "kind":
        kinds.append((words[1], int(words[2]), int(words[3])))
    else:
        arrows.append((words[1], words[2], int(words[3])))


def write_tasks(tasks):
    """The text of a list of tasks."""
    lines = []
    for task in tasks:
        lines.append(f"task {task.name}\n")
        for name, cost, deadline in task.kinds:
            lines.append(f"kind {name} {cost} {deadline}\n")
        for first, second, gap in task.arrows:
            lines.append(f"arrow {first} {second} {gap}\n")
    return "".join(lines)
