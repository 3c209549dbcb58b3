"""Builds: what a small kernel consists of."""

from hushkernel.checks import is_ascending, is_between, is_index, is_list, is_tuple
from hushkernel.errors import NoBuild
from hushkernel.forms import counted, is_right
from hushkernel.rules import Rules


class Build:
    """A small kernel, as it is described. It does not change."""

    def __init__(self, tasks, pages, ports, locks, frames, disk, rights, lines, costs, plan, outside, *,
                 wipe=False, pad=False, lend=False, share=False):
        part = things_fault(tasks, pages, ports, locks, frames, disk)
        if part is not None:
            raise NoBuild(part)
        counts = counted(len(tasks), len(pages), len(ports), locks, disk)
        part = ways_fault(counts, rights, lines, costs, plan, outside)
        if part is not None:
            raise NoBuild(part)
        flags = {"wipe": wipe, "pad": pad, "lend": lend, "share": share}
        part = flags_fault(flags)
        if part is not None:
            raise NoBuild(part)
        self._parts = {
            "tasks": tuple(tasks),
            "pages": tuple(pages),
            "ports": tuple(ports),
            "locks": locks,
            "frames": frames,
            "disk": disk,
            "rights": tuple([tuple(row) for row in rights]),
            "lines": tuple(lines),
            "costs": costs,
            "plan": (plan[0], tuple(plan[1]) if plan[0] == "slots" else plan[1]),
            "outside": outside,
            **flags,
        }
        # An attribute, no method: each tick asks for it.
        self.rules = Rules(self)

    def tasks(self):
        return list(self._parts["tasks"])

    def pages(self):
        return list(self._parts["pages"])

    def ports(self):
        return list(self._parts["ports"])

    def locks(self):
        return self._parts["locks"]

    def frames(self):
        return self._parts["frames"]

    def disk(self):
        return self._parts["disk"]

    def rights(self):
        return [list(row) for row in self._parts["rights"]]

    def lines(self):
        return list(self._parts["lines"])

    def costs(self):
        return self._parts["costs"]

    def plan(self):
        word, how = self._parts["plan"]
        return (word, list(how)) if word == "slots" else (word, how)

    def outside(self):
        return self._parts["outside"]

    def wipe(self):
        return self._parts["wipe"]

    def pad(self):
        return self._parts["pad"]

    def lend(self):
        return self._parts["lend"]

    def share(self):
        return self._parts["share"]

    def sides(self):
        return sorted(set([side for side, level in self._parts["tasks"]]))

    def __eq__(self, other):
        return isinstance(other, Build) and self._parts == other._parts


def things_fault(tasks, pages, ports, locks, frames, disk):
    """The name of the first of these parts that is not as described, or None."""
    if not fit_as_tasks(tasks):
        return "tasks"
    if not fit_as_numbers(pages, 3, 0, 1):
        return "pages"
    if not fit_as_numbers(ports, 2, 1, 2):
        return "ports"
    if not is_between(locks, 0, 2):
        return "locks"
    if not is_between(frames, 0, 3):
        return "frames"
    if not (is_between(disk, 0, 4) and disk != 1):
        return "disk"
    return None


def ways_fault(counts, rights, lines, costs, plan, outside):
    """The name of the first of these parts that is not as described, or None."""
    if not fit_as_rights(counts, rights):
        return "rights"
    if not fit_as_lines(counts, lines):
        return "lines"
    if not fit_as_costs(costs):
        return "costs"
    if not fit_as_plan(counts, plan):
        return "plan"
    if not fits_as_outside(counts, outside):
        return "outside"
    return None


def flags_fault(flags):
    for name, flag in flags.items():
        if not isinstance(flag, bool):
            return name
    return None


def fit_as_tasks(tasks):
    if not is_list(tasks, 2, 4):
        return False
    for task in tasks:
        if not (is_tuple(task, 2) and is_between(task[0], 0, 3) and is_between(task[1], 0, 2)):
            return False
    return len(set([side for side, level in tasks])) > 1


def fit_as_numbers(numbers, most, low, high):
    return is_list(numbers, 0, most) and all([is_between(number, low, high) for number in numbers])


def fit_as_rights(counts, rights):
    many = counts["task"]
    return is_list(rights, many, many) and all([fit_as_row(counts, row) for row in rights])


def fit_as_row(counts, row):
    """Whether these are rights that one task may have at first."""
    return is_list(row, 0, 8) and all([is_right(counts, right) for right in row]) and is_ascending(row)


def fit_as_lines(counts, lines):
    many = counts["page"]
    return is_list(lines, many, many) and all([line is None or is_between(line, 0, 1) for line in lines])


def fit_as_costs(costs):
    if not is_tuple(costs, 3):
        return False
    return is_between(costs[0], 1, 3) and is_between(costs[1], 0, 3) and is_between(costs[2], 0, 2)


def fit_as_plan(counts, plan):
    if not is_tuple(plan, 2):
        return False
    if plan[0] == "levels":
        return is_between(plan[1], 1, 8)
    return plan[0] == "slots" and is_list(plan[1], 1, 4) and all([fits_as_slot(counts, row) for row in plan[1]])


def fits_as_slot(counts, row):
    return is_tuple(row, 2) and is_index(row[0], counts["task"]) and is_between(row[1], 1, 12)


def fits_as_outside(counts, outside):
    if outside is None:
        return True
    return is_tuple(outside, 2) and is_index(outside[0], counts["port"]) and is_between(outside[1], 1, 4)
