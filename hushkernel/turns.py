"""Which task has its turn, once a kernel is not busy."""


def turn_now(kernel):
    """The task that has its turn in this tick, or None; tells the kernel what runs now."""
    if kernel.rules.has_slots:
        return turn_by_slots(kernel)
    return turn_by_levels(kernel)


def turn_by_slots(kernel):
    slots = kernel.rules.slots
    task, begins, fits = slots[kernel.phase % len(slots)]
    if begins:
        change(kernel, task)
    return task if fits and kernel.is_ready(task) else None


def turn_by_levels(kernel):
    tasks = candidates(kernel)
    if tasks == []:
        kernel.runs = None
        kernel.spent = 0
        return None
    if kernel.runs in tasks and kernel.spent < kernel.rules.span:
        return kernel.runs
    task = following(tasks, kernel.runs)
    kernel.spent = 0
    if task == kernel.runs:
        return task
    change(kernel, task)
    kernel.busy = kernel.rules.switch
    return task if kernel.busy == 0 else None


def change(kernel, task):
    """A task runs from now on; if it ran already, nothing changes."""
    side_of = kernel.rules.side_of
    if kernel.rules.wipes and (kernel.runs is None or side_of[kernel.runs] != side_of[task]):
        kernel.cached = (None, None)
    kernel.runs = task


def following(tasks, runs):
    """The first of ascending tasks behind the one that runs, which comes last itself."""
    if runs is None:
        return tasks[0]
    behind = [task for task in tasks if task > runs]
    return behind[0] if len(behind) > 0 else tasks[0]


def candidates(kernel):
    """The ready tasks of the greatest level that a ready task has, ascending."""
    ready = [task for task in range(kernel.rules.task_count) if kernel.is_ready(task)]
    levels = levels_now(kernel)
    top = max([levels[task] for task in ready], default=0)
    return [task for task in ready if levels[task] == top]


def levels_now(kernel):
    """The level of each task, with those that are lent to it."""
    own = kernel.rules.levels
    if not kernel.rules.lends:
        return own
    levels = list(own)
    for task in range(kernel.rules.task_count):
        for holder in holders_behind(kernel, task):
            levels[holder] = max(levels[holder], own[task])
    return levels


def holders_behind(kernel, task):
    """The tasks to which one comes by going from a task that is locked to the holder, again and again."""
    met = []
    status = kernel.statuses[task]
    while status[0] == "locked":
        holder = kernel.lock_rows[status[1]][0]
        if holder in met:
            # Tasks that wait for one another in a ring come to nobody else.
            break
        met.append(holder)
        status = kernel.statuses[holder]
    return met
