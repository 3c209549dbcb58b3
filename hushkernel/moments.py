"""Moments: what a kernel is between two ticks."""

from hushkernel.checks import are_tasks, is_index, is_tuple
from hushkernel.errors import NoActs, NoCall, NoLetter, NoTask, NoTasks
from hushkernel.forms import is_call
from hushkernel.kernels import READY, put
from hushkernel.ticks import finished, letters_now, opened
from hushkernel.worth import worth_trying

# The places of the parts in a shape.
STATUSES = 0
ANSWERS = 1
RIGHTS = 2
FRAMES = 3
PAGES = 4
PORTS = 5
LOCKS = 6
LINES = 7
HEAD = 8
RUNNING = 9


class Moment:
    """What a kernel is between two ticks. It does not change."""

    def __init__(self, build, shape):
        self._build = build
        self._shape = shape

    def build(self):
        return self._build

    def status(self, task):
        check_task(self._build, task)
        return self._shape[STATUSES][task]

    def answer(self, task):
        check_task(self._build, task)
        return self._shape[ANSWERS][task]

    def rights(self, task):
        check_task(self._build, task)
        return list(self._shape[RIGHTS][task])

    def held(self, task):
        check_task(self._build, task)
        return self._shape[FRAMES][task]

    def pages(self):
        return list(self._shape[PAGES])

    def ports(self):
        return [list(letters) for letters in self._shape[PORTS]]

    def locks(self):
        return list(self._shape[LOCKS])

    def lines(self):
        return list(self._shape[LINES])

    def head(self):
        return self._shape[HEAD]

    def running(self):
        return self._shape[RUNNING]

    def due(self, outside=None):
        return opened_with(self, outside).turn

    def tick(self, outside=None, call=None):
        kernel = opened_with(self, outside)
        if kernel.turn is None:
            fits = call is None
        else:
            fits = is_call(self._build.rules.counts, call)
        if not fits:
            raise NoCall("it is no call of the build at a turn, or a call without a turn")
        return (kernel.seen(), Moment(self._build, finished(kernel, call)))

    def calls(self, outside=None):
        return worth_trying(opened_with(self, outside))

    def veiled(self, tasks):
        if not (isinstance(tasks, list) and are_tasks(tasks, self._build.rules.task_count)):
            raise NoTasks("it is not an ascending list of tasks")
        return Moment(self._build, veiled_shape(self._shape, tasks))

    def shape(self):
        return self._shape

    def __eq__(self, other):
        return isinstance(other, Moment) and self._build == other._build and self._shape == other._shape


def veiled_shape(shape, tasks):
    """The shape without the answers of some tasks."""
    answers = tuple([None if task in tasks else answer for task, answer in enumerate(shape[ANSWERS])])
    return put(shape, ANSWERS, answers)


def check_task(build, task):
    if not is_index(task, build.rules.task_count):
        raise NoTask("it is not the index of a task")


def opened_with(moment, outside):
    """The kernel in the midst of the next tick of a moment, with a letter from outside or None."""
    rules = moment.build().rules
    shape = moment.shape()
    if not is_letter_now(letters_now(rules, shape), outside):
        raise NoLetter("this letter may not come from outside now")
    return opened(rules, shape, outside)


def is_letter_now(letters, outside):
    """Whether it is one of these letters: True is none, though it is equal to 1."""
    return outside is None or (is_index(outside, 2) and outside in letters)


def first(build):
    """The first moment of a build."""
    many = build.rules.task_count
    rights = tuple([tuple(row) for row in build.rights()])
    ports = tuple([() for size in build.ports()])
    locks = tuple([(None, ()) for lock in range(build.locks())])
    running = (None, 0, 0, 0)
    return Moment(build, ((READY,) * many, (None,) * many, rights, (0,) * many, tuple(build.pages()),
                          ports, locks, (None, None), 0, running))


def played(moment, acts):
    """What is seen by a row of acts, and the moment behind it."""
    if not isinstance(acts, list):
        raise NoActs(-1)
    seen = []
    for index, act in enumerate(acts):
        if not is_tuple(act, 2):
            raise NoActs(index)
        try:
            sight, moment = moment.tick(act[0], act[1])
        except (NoLetter, NoCall):
            raise NoActs(index) from None
        seen.append(sight)
    return (seen, moment)
