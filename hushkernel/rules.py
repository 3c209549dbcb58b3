"""What ticks ask of a build again and again, worked out once."""

from math import lcm

from hushkernel.forms import counted


class Rules:
    """The numbers and flags of a build as the ticks take them."""

    def __init__(self, build):
        tasks = build.tasks()
        self.task_count = len(tasks)
        self.levels = tuple([level for side, level in tasks])
        self.side_of = tuple([side for side, level in tasks])
        self.sizes = tuple(build.ports())
        self.line_of = tuple(build.lines())
        self.places = build.disk()
        self.counts = counted(len(tasks), len(build.pages()), len(self.sizes), build.locks(), self.places)
        self.wipes = build.wipe()
        self.pads = build.pad()
        self.lends = build.lend()
        self.set_costs(build.costs())
        self.set_frames(build)
        self.set_plan(build.plan())
        self.set_letters(build.outside())

    def set_costs(self, costs):
        self.plain, self.miss, self.switch = costs
        self.greatest = self.plain + max(self.miss, self.places - 1)

    def set_frames(self, build):
        self.all_frames = build.frames()
        self.side_frames = self.all_frames
        if build.share():
            self.side_frames = self.all_frames // len(build.sides())

    def set_plan(self, plan):
        """With levels, the slots are empty; with slots, the span is 0."""
        word, how = plan
        self.has_slots = word == "slots"
        self.span = 0 if self.has_slots else how
        self.slots = self.slot_ticks(how) if self.has_slots else ()

    def slot_ticks(self, rows):
        """For each tick of the slots: its task, whether its slot begins, and whether a turn fits in."""
        found = []
        for task, ticks in rows:
            for gone in range(ticks):
                fits = gone >= self.switch and ticks - gone >= self.greatest
                found.append((task, gone == 0, fits))
        return tuple(found)

    def set_letters(self, outside):
        """Without letters from outside the port is None."""
        self.letter_port, self.every = (None, 1) if outside is None else outside
        self.period = lcm(self.every, max(len(self.slots), 1))

    def may_come(self, phase):
        return self.letter_port is not None and phase % self.every == 0
