"""Moments as texts."""

from hushkernel.choices import orders
from hushkernel.errors import NoImage, NoText
from hushkernel.forms import all_rights
from hushkernel.instructions import ANSWERS
from hushkernel.kernels import READY
from hushkernel.moments import Moment
from hushkernel.wording import Reading, numbered, right_lines, table_of, worded

# The most ticks that a task can have spent, and that a kernel can be busy.
MOST_SPENT = 13
MOST_BUSY = 8


def moment_text(moment):
    """The image of a moment."""
    statuses, answers, rights, frames, pages, ports, locks, cached, head, running = moment.shape()
    lines = [worded("task", row) for row in zip(statuses, answers, frames)]
    lines.extend(right_lines(rights))
    lines.extend([worded("page", (value,)) for value in pages])
    lines.extend([worded("port", letters) for letters in ports])
    lines.extend([worded("lock", (holder, *waiters)) for holder, waiters in locks])
    lines.append(worded("lines", cached))
    lines.append(worded("head", (head,)))
    lines.append(worded("running", running))
    return "\n".join(lines)


def read_moment(build, text):
    """The sound moment of the build whose image it is."""
    reading = Reading(text)
    try:
        shape = read_shape(build.rules, reading)
    except NoText:
        raise NoImage("it is the image of no sound moment of the build") from None
    return Moment(build, shape)


def read_shape(rules, reading):
    """Each line is looked up among those that a sound moment can have behind the lines before."""
    counts = rules.counts
    tasks = read_tasks(rules, reading)
    statuses = tuple([status for status, answer, held in tasks])
    rights = reading.rights(counts, len(all_rights(counts)))
    pages = [reading.sure(numbered("page", (0, 1))) for _ in range(counts["page"])]
    ports = [reading.sure(port_lines(rules, statuses, port)) for port in range(counts["port"])]
    locks = [reading.sure(lock_lines(statuses, lock)) for lock in range(counts["lock"])]
    cached = reading.sure(cache_lines(rules))
    head = reading.sure(numbered("head", list(range(max(rules.places, 1)))))
    running = reading.sure(running_lines(rules))
    reading.finish()
    answers = tuple([answer for status, answer, held in tasks])
    frames = tuple([held for status, answer, held in tasks])
    owned = tuple([tuple(row) for row in rights])
    return (statuses, answers, owned, frames, tuple(pages), tuple(ports), tuple(locks), cached, head, running)


def read_tasks(rules, reading):
    """A tuple (status, answer, frames) for each task."""
    tasks = []
    left = rules.all_frames
    for _ in range(rules.task_count):
        task = reading.sure(task_lines(rules.counts, left))
        left -= task[2]
        tasks.append(task)
    return tasks


def task_lines(counts, left):
    """A task that is not ready has no answer; it holds at most the frames that are left."""
    rows = [(READY, answer) for answer in (None, *ANSWERS)]
    rows.extend([(("asleep", ticks), None) for ticks in (1, 2)])
    rows.extend([(("waits", port), None) for port in range(counts["port"])])
    rows.extend([(("locked", lock), None) for lock in range(counts["lock"])])
    return table_of("task", [(status, answer, held) for status, answer in rows for held in range(left + 1)])


def port_lines(rules, statuses, port):
    """A port at which a task waits is empty."""
    size = 0 if ("waits", port) in statuses else rules.sizes[port]
    rows = [()]
    for many in range(size):
        rows = rows + [row + (letter,) for row in rows if len(row) == many for letter in (0, 1)]
    return table_of("port", rows)


def lock_lines(statuses, lock):
    """The tasks that are locked wait, in any order, for another task; if there are any, the lock is held."""
    waiters = [task for task, status in enumerate(statuses) if status == ("locked", lock)]
    holders = [task for task in range(len(statuses)) if task not in waiters]
    if waiters == []:
        holders.append(None)
    rows = [(holder, order) for holder in holders for order in orders(waiters)]
    return {worded("lock", (holder, *order)): (holder, order) for holder, order in rows}


def cache_lines(rules):
    """In a line there is nothing, or a page whose line it is."""
    first, second = [pages_of(rules, line) for line in (0, 1)]
    return table_of("lines", [(one, other) for one in first for other in second])


def pages_of(rules, line):
    return [None, *[page for page, own in enumerate(rules.line_of) if own == line]]


def running_lines(rules):
    """What a kernel can be at: which task runs, the ticks that it has spent, how long it is busy, and the phase."""
    longest = 0 if rules.has_slots else MOST_SPENT
    runs = [(None, 0), *[(task, spent) for task in range(rules.task_count) for spent in range(longest + 1)]]
    rows = [(busy, phase) for phase in range(rules.period) for busy in range(busiest(rules, phase) + 1)]
    return table_of("running", [run + row for run in runs for row in rows])


def busiest(rules, phase):
    """For how many ticks a kernel can be busy at a phase: with slots, it is not any more when the next one begins."""
    if not rules.has_slots:
        return MOST_BUSY
    begins = [slot[1] for slot in rules.slots]
    at = phase % len(begins)
    if begins[at]:
        return 1
    ahead = [tick for tick, begin in enumerate(begins) if begin and tick > at]
    left = min(ahead, default=len(begins)) - at
    return min(left + 1, MOST_BUSY)
