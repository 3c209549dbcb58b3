"""Kernels that are led live, with their quiet twin beside them."""

from hushkernel.checks import is_index
from hushkernel.errors import NoBack, NoOnes, NoTick
from hushkernel.forms import PASS
from hushkernel.moments import check_task, first
from hushkernel.roles import roles_of


class Live:
    """A kernel that is led tick by tick, and its twin, in which the ones only pass.

    What has been so far is kept in tuples, so that it can be put back at once, whatever comes between.
    """

    def __init__(self, build, *, ones=None):
        self._source = build
        self._roles = None if ones is None else roles_of(build, ones, None)
        begun = first(build)
        # The moment and the twin ahead of each tick, and those of now.
        self._spots = ((begun, None if ones is None else begun),)
        self._acts = ()
        # For each tick what was seen in the kernel, and in its twin.
        self._sights = ()

    def due(self, outside=None):
        return self.moment().due(outside)

    def calls(self, outside=None):
        return self.moment().calls(outside)

    def tick(self, outside=None, call=None):
        moment, twin = self._spots[-1]
        sight, moment = moment.tick(outside, call)
        twin_sight = None
        if twin is not None:
            twin_sight, twin = twin.tick(outside, self._twin_call(twin.due(outside), sight, call))
        self._spots = self._spots + ((moment, twin),)
        self._acts = self._acts + ((outside, call),)
        self._sights = self._sights + ((sight, twin_sight),)
        return sight

    def _twin_call(self, task, sight, call):
        """What the task that has its turn in the twin calls there, beside what is seen and called in the kernel."""
        if task is None:
            return None
        if task in self._roles.eyes and sight is not None and sight[0] == task:
            return call
        return PASS

    def back(self):
        if self._acts == ():
            raise NoBack("there is no tick to take back")
        self._spots = self._spots[:-1]
        self._acts = self._acts[:-1]
        self._sights = self._sights[:-1]

    def __len__(self):
        return len(self._acts)

    def __getitem__(self, at):
        if not is_index(at, len(self._acts)):
            raise NoTick("it is not the index of a tick")
        return self._acts[at]

    def __iter__(self):
        return iter(self._acts)

    def moment(self):
        return self._spots[-1][0]

    def twin(self):
        return self._spots[-1][1]

    def seen(self, task):
        check_task(self._source, task)
        return turns_of(task, [sight for sight, _ in self._sights])

    def twin_seen(self, task):
        check_task(self._source, task)
        if self._roles is None:
            raise NoOnes("without ones there is no twin")
        return turns_of(task, [sight for _, sight in self._sights])

    def parted(self):
        if self._roles is None:
            return None
        for index, (sight, twin_sight) in enumerate(self._sights):
            if self._roles.see_unlike(sight, twin_sight):
                return index
        return None

    def tried(self, action):
        spots, acts, sights = self._spots, self._acts, self._sights
        try:
            return action(self)
        finally:
            self._spots, self._acts, self._sights = spots, acts, sights


def turns_of(task, sights):
    """The tuples (tick, answer) of the turns of a task."""
    return [(tick, sight[1]) for tick, sight in enumerate(sights) if sight is not None and sight[0] == task]
