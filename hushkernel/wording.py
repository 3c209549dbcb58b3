"""Words of texts: how things are written, and how lines are read."""

from hushkernel.errors import NoText
from hushkernel.forms import all_rights


def worded(word, items):
    """A word and what follows; a tuple in an item is written as its own items."""
    return " ".join([word, *[spelled(item) for item in items]])


def spelled(item):
    if item is None:
        return "none"
    if isinstance(item, tuple):
        return worded(item[0], item[1:])
    return str(item)


def right_lines(rows):
    """A line for each right of each task."""
    return [worded("right", (task, right)) for task, row in enumerate(rows) for right in row]


def table_of(word, rows):
    """The rows by the lines that stand for them."""
    return {worded(word, row): row for row in rows}


def numbered(word, numbers):
    """The numbers by the lines that stand for them."""
    return {worded(word, (number,)): number for number in numbers}


class Reading:
    """A text that is read line by line; each line is looked up in a table of all lines that may stand there."""

    def __init__(self, text):
        if not isinstance(text, str):
            raise NoText(-1)
        self.rows = text.split("\n")
        self.at = 0

    def maybe(self, table):
        """What the next line stands for; None, and it is not read, if it may not stand there."""
        if self.at == len(self.rows):
            return None
        found = table.get(self.rows[self.at])
        if found is not None:
            self.at += 1
        return found

    def sure(self, table):
        """What the next line stands for, which has to be there."""
        found = self.maybe(table)
        if found is None:
            raise NoText(self.at)
        return found

    def several(self, table, most):
        """What the next lines stand for, up to so many."""
        found = []
        while len(found) < most:
            item = self.maybe(table)
            if item is None:
                break
            found.append(item)
        return found

    def rights(self, counts, most):
        """The list of the rights of each task, each ascending and at most so long."""
        rows = [[] for _ in range(counts["task"])]
        table = table_of("right", [(task, right) for task in range(counts["task"]) for right in all_rights(counts)])
        found = self.maybe(table)
        while found is not None:
            task, right = found
            rows[task].append(right)
            full = len(rows[task]) == most
            table = {line: pair for line, pair in table.items() if pair > found and not (full and pair[0] == task)}
            found = self.maybe(table)
        return rows

    def finish(self):
        """All lines have been read."""
        if self.at < len(self.rows):
            raise NoText(self.at)
