"""Builds as texts."""

from hushkernel.builds import Build
from hushkernel.errors import NoText
from hushkernel.forms import counted
from hushkernel.wording import Reading, numbered, right_lines, table_of, worded

FLAGS = ("wipe", "pad", "lend", "share")
SIDES = (0, 1, 2, 3)


def build_text(build):
    """The text of a build."""
    lines = [worded("task", task) for task in build.tasks()]
    lines.extend([page_line(page, line) for page, line in zip(build.pages(), build.lines())])
    lines.extend([worded("port", (size,)) for size in build.ports()])
    lines.append(worded("locks", (build.locks(),)))
    lines.append(worded("frames", (build.frames(),)))
    lines.append(worded("disk", (build.disk(),)))
    lines.append(worded("costs", build.costs()))
    lines.extend(plan_lines(build.plan()))
    if build.outside() is not None:
        lines.append(worded("outside", build.outside()))
    flags = (build.wipe(), build.pad(), build.lend(), build.share())
    lines.extend([name for name, flag in zip(FLAGS, flags) if flag])
    lines.extend(right_lines(build.rights()))
    return "\n".join(lines)


def page_line(page, line):
    return worded("page", (page,) if line is None else (page, "line", line))


def plan_lines(plan):
    word, how = plan
    if word == "levels":
        return [worded(word, (how,))]
    return [word, *[slot_line(row) for row in how]]


def slot_line(row):
    return f"  {row[0]} {row[1]}"


def read_build(text):
    """The build whose text it is."""
    reading = Reading(text)
    tasks = read_tasks(reading)
    pages = reading.several({page_line(page, line): (page, line) for page in (0, 1) for line in (None, 0, 1)}, 3)
    ports = reading.several(numbered("port", (1, 2)), 2)
    locks = reading.sure(numbered("locks", (0, 1, 2)))
    frames = reading.sure(numbered("frames", (0, 1, 2, 3)))
    disk = reading.sure(numbered("disk", (0, 2, 3, 4)))
    costs = reading.sure(cost_lines())
    plan = read_plan(reading, len(tasks))
    outside = reading.maybe(table_of("outside", [(port, every) for port in range(len(ports)) for every in range(1, 5)]))
    flags = {name: reading.maybe({name: True}) is not None for name in FLAGS}
    rights = reading.rights(counted(len(tasks), len(pages), len(ports), locks, disk), 8)
    reading.finish()
    values = [page for page, line in pages]
    lines = [line for page, line in pages]
    return Build(tasks, values, ports, locks, frames, disk, rights, lines, costs, plan, outside, **flags)


def read_tasks(reading):
    """The tasks, which belong to two sides at least: so a fourth one has to be of another side than three of one."""
    tasks = reading.several(task_lines(SIDES), 3)
    if len(tasks) == 3:
        sides = [side for side in SIDES if side != tasks[0][0]] if is_one_sided(tasks) else SIDES
        tasks.extend(reading.several(task_lines(sides), 1))
    if is_one_sided(tasks):
        raise NoText(reading.at)
    return tasks


def task_lines(sides):
    return table_of("task", [(side, level) for side in sides for level in range(3)])


def is_one_sided(tasks):
    """Whether there are no two sides; nor are there if there is one task, or none."""
    return len(set([side for side, level in tasks])) < 2


def cost_lines():
    return table_of("costs", [
        (plain, miss, switch) for plain in range(1, 4) for miss in range(4) for switch in range(3)
    ])


def read_plan(reading, many):
    """The plan of a build with so many tasks."""
    span = reading.maybe(numbered("levels", list(range(1, 9))))
    if span is not None:
        return ("levels", span)
    reading.sure({"slots": True})
    slots = {slot_line((task, ticks)): (task, ticks) for task in range(many) for ticks in range(1, 13)}
    row = reading.sure(slots)
    return ("slots", [row, *reading.several(slots, 3)])
