"""A kernel in the midst of a tick: what moments are unpacked to, changed, and packed again."""

READY = ("ready",)


def put(row, at, item):
    """A tuple with another item at one place."""
    return row[:at] + (item,) + row[at + 1:]


class Kernel:
    """Its parts are the tuples of a moment's shape; each change gives a part another tuple."""

    def __init__(self, rules, shape):
        self.rules = rules
        (self.statuses, self.answers, self.owned, self.taken, self.values_now, self.queues,
         self.lock_rows, self.cached, self.place, running) = shape
        self.runs, self.spent, self.busy, self.phase = running
        # The task that has its turn in this tick, or None.
        self.turn = None
        # What the call of this tick costs beside the plain ticks.
        self.extra = 0

    def shape(self):
        running = (self.runs, self.spent, self.busy, self.phase)
        return (self.statuses, self.answers, self.owned, self.taken, self.values_now, self.queues,
                self.lock_rows, self.cached, self.place, running)

    def seen(self):
        """What is seen in this tick, ahead of the call."""
        return None if self.turn is None else (self.turn, self.answers[self.turn])

    def is_ready(self, task):
        return self.statuses[task] == READY

    def settle(self, task, status, answer):
        self.statuses = put(self.statuses, task, status)
        self.answers = put(self.answers, task, answer)

    def sleep_on(self):
        """Each task that is asleep has one tick less."""
        asleep = [task for task, status in enumerate(self.statuses) if status[0] == "asleep"]
        for task in asleep:
            ticks = self.statuses[task][1]
            if ticks > 1:
                self.settle(task, ("asleep", ticks - 1), None)
            else:
                self.settle(task, READY, "yes")

    def has_room(self, port):
        return len(self.queues[port]) < self.rules.sizes[port]

    def waiting(self, port):
        """The tasks that wait at a port, ascending."""
        status = ("waits", port)
        return [task for task, now in enumerate(self.statuses) if now == status]

    def receive(self, port, letter):
        """A letter comes to a port; without a task that waits, and without room, it is lost."""
        tasks = self.waiting(port)
        if len(tasks) > 0:
            self.settle(tasks[0], READY, str(letter))
        elif self.has_room(port):
            self.queues = put(self.queues, port, self.queues[port] + (letter,))
