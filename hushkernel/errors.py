"""The errors of the package: each stands directly under KernelError."""


class KernelError(ValueError):
    """Something that was handed in is not as it has to be."""


class NoTask(KernelError):
    """It is not the index of a task."""


class NoTasks(KernelError):
    """It is not an ascending list of tasks."""


class NoLetter(KernelError):
    """It is not a letter that may come from outside now."""


class NoCall(KernelError):
    """It is not a call that can be made now."""


class NoMost(KernelError):
    """It is not a bound."""


class NoWatch(KernelError):
    """It is not a watch of the build."""


class NoOnes(KernelError):
    """It is not a list of ones, or there are no ones."""


class NoEyes(KernelError):
    """It is not a list of eyes."""


class NoCures(KernelError):
    """It is not an ascending list of cures."""


class NoBack(KernelError):
    """There is no tick to take back."""


class NoTick(KernelError):
    """It is not the index of a tick."""


class NoLetters(KernelError):
    """It is not a list of letters from outside."""


class NoTicks(KernelError):
    """It is not a number of ticks."""


class NoWhich(KernelError):
    """It names neither of the two kernels."""


class NoLong(KernelError):
    """A program would be too long."""


class NoImage(KernelError):
    """It is the image of no sound moment of the build."""


class NoDoors(KernelError):
    """It is not a list of doors."""


class NoBuild(KernelError):
    """A part of a build is not as described."""

    def __init__(self, part):
        self.part = part


class NoActs(KernelError):
    """A row of acts does not fit."""

    def __init__(self, index):
        self.index = index


class NoRows(KernelError):
    """A list of rows of two kernels does not fit."""

    def __init__(self, index):
        self.index = index


class NoProgram(KernelError):
    """The program of a task is not one."""

    def __init__(self, task, index):
        self.task = task
        self.index = index


class TooMany(KernelError):
    """There are more than the bound lets be."""

    def __init__(self, most):
        self.most = most


class NoText(KernelError):
    """A line of a text is wrong, or missing."""

    def __init__(self, line):
        self.line = line
