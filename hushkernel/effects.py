"""What the calls of a task do. Each effect returns the answer, or None if it comes later."""

from hushkernel.kernels import READY, put


def make_call(kernel, call):
    """The task that has its turn has seen its answer, and makes a call."""
    task = kernel.turn
    kernel.answers = put(kernel.answers, task, None)
    effect = EFFECTS[call[0]]
    answer = effect(kernel, task, call)
    if answer is not None:
        kernel.answers = put(kernel.answers, task, answer)
    rules = kernel.rules
    kernel.busy = rules.greatest if rules.pads else rules.plain + kernel.extra
    if not rules.has_slots:
        kernel.spent += kernel.busy


def may(kernel, task, right):
    return right in kernel.owned[task]


def touch(kernel, page):
    """A page is read or written: it costs more if it is not in its cache line; behind it, it is."""
    line = kernel.rules.line_of[page]
    if line is None:
        kernel.extra = kernel.rules.miss
    elif kernel.cached[line] != page:
        kernel.extra = kernel.rules.miss
        kernel.cached = put(kernel.cached, line, page)


def read_page(kernel, task, call):
    page = call[1]
    if not may(kernel, task, ("read", page)):
        return "no"
    touch(kernel, page)
    return str(kernel.values_now[page])


def write_page(kernel, task, call):
    page = call[1]
    if not may(kernel, task, ("write", page)):
        return "no"
    touch(kernel, page)
    kernel.values_now = put(kernel.values_now, page, call[2])
    return "yes"


def send_letter(kernel, task, call):
    port = call[1]
    if not may(kernel, task, ("send", port)):
        return "no"
    if not kernel.has_room(port) and kernel.waiting(port) == []:
        return "no"
    kernel.receive(port, call[2])
    return "yes"


def take_letter(kernel, task, call):
    port = call[1]
    if not may(kernel, task, ("take", port)):
        return "no"
    queue = kernel.queues[port]
    if queue == ():
        return "empty"
    kernel.queues = put(kernel.queues, port, queue[1:])
    return str(queue[0])


def wait_for_letter(kernel, task, call):
    answer = take_letter(kernel, task, call)
    if answer != "empty":
        return answer
    kernel.statuses = put(kernel.statuses, task, ("waits", call[1]))
    return None


def take_lock(kernel, task, call):
    lock = call[1]
    holder, waiters = kernel.lock_rows[lock]
    if holder == task or not may(kernel, task, ("lock", lock)):
        return "no"
    if holder is None:
        kernel.lock_rows = put(kernel.lock_rows, lock, (task, ()))
        return "yes"
    kernel.lock_rows = put(kernel.lock_rows, lock, (holder, waiters + (task,)))
    kernel.statuses = put(kernel.statuses, task, ("locked", lock))
    return None


def free_lock(kernel, task, call):
    lock = call[1]
    holder, waiters = kernel.lock_rows[lock]
    if holder != task:
        return "no"
    if waiters == ():
        kernel.lock_rows = put(kernel.lock_rows, lock, (None, ()))
    else:
        kernel.lock_rows = put(kernel.lock_rows, lock, (waiters[0], waiters[1:]))
        kernel.settle(waiters[0], READY, "yes")
    return "yes"


def hand_right(kernel, task, call):
    other, right = call[1], call[2]
    if not (may(kernel, task, ("hand", other)) and may(kernel, task, right)):
        return "no"
    if not may(kernel, other, right):
        row = tuple(sorted(kernel.owned[other] + (right,)))
        kernel.owned = put(kernel.owned, other, row)
    return "yes"


def strip_right(kernel, task, call):
    other, right = call[1], call[2]
    if not (may(kernel, task, ("strip", other)) and may(kernel, other, right)):
        return "no"
    row = tuple([kept for kept in kernel.owned[other] if kept != right])
    kernel.owned = put(kernel.owned, other, row)
    return "yes"


def fall_asleep(kernel, task, call):
    kernel.statuses = put(kernel.statuses, task, ("asleep", call[1]))
    return None


def seek_place(kernel, task, call):
    if not may(kernel, task, ("seek", 0)):
        return "no"
    kernel.extra = abs(call[1] - kernel.place)
    kernel.place = call[1]
    return "yes"


def get_frame(kernel, task, call):
    rules = kernel.rules
    if sum(kernel.taken) >= rules.all_frames:
        return "no"
    side = rules.side_of[task]
    held_by_side = sum([held for held, other in zip(kernel.taken, rules.side_of) if other == side])
    if held_by_side >= rules.side_frames:
        return "no"
    kernel.taken = put(kernel.taken, task, kernel.taken[task] + 1)
    return "yes"


def give_frame(kernel, task, call):
    if kernel.taken[task] == 0:
        return "no"
    kernel.taken = put(kernel.taken, task, kernel.taken[task] - 1)
    return "yes"


def do_nothing(kernel, task, call):
    return "yes"


EFFECTS = {
    "read": read_page,
    "write": write_page,
    "send": send_letter,
    "take": take_letter,
    "wait": wait_for_letter,
    "lock": take_lock,
    "free": free_lock,
    "hand": hand_right,
    "strip": strip_right,
    "sleep": fall_asleep,
    "seek": seek_place,
    "get": get_frame,
    "give": give_frame,
    "pass": do_nothing,
}
