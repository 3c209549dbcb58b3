"""The calls worth trying of the task that has its turn."""

CALLS_BEHIND = (("sleep", 1), ("sleep", 2), ("pass",))


def worth_trying(kernel):
    """The list of them, in their order; empty if there is no turn."""
    task = kernel.turn
    if task is None:
        return []
    calls = []
    for right in kernel.owned[task]:
        calls.extend(calls_by_right(kernel, task, right))
    if kernel.rules.all_frames > 0:
        calls.append(("get",))
        if kernel.taken[task] > 0:
            calls.append(("give",))
    calls.extend(CALLS_BEHIND)
    calls.extend(frees_without_right(kernel, task))
    return calls


def calls_tried(kernel):
    """The calls to go on with: those worth trying, or None alone where there is no turn."""
    return [None] if kernel.turn is None else worth_trying(kernel)


def calls_by_right(kernel, task, right):
    """What a right lets a task do."""
    word, index = right
    if word == "read":
        return [right]
    if word in ("write", "send"):
        return [(word, index, 0), (word, index, 1)]
    if word == "take":
        return [right, ("wait", index)]
    if word == "lock":
        return [right, ("free", index)]
    if word == "hand":
        return [("hand", index, own) for own in kernel.owned[task]]
    if word == "strip":
        return [("strip", index, other) for other in kernel.owned[index]]
    return [("seek", place) for place in range(kernel.rules.places)]


def frees_without_right(kernel, task):
    """A lock that is held can be set free, also when its right has been called back."""
    calls = []
    for lock, (holder, _) in enumerate(kernel.lock_rows):
        if holder == task and ("lock", lock) not in kernel.owned[task]:
            calls.append(("free", lock))
    return calls
