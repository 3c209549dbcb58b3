"""Who tells and who sees: the ones, the eyes and the thirds of a build; and which calls of the ones are let through."""

from hushkernel.checks import is_ascending, is_integer, is_list
from hushkernel.errors import NoDoors, NoEyes, NoOnes
from hushkernel.forms import is_right
from hushkernel.moments import ANSWERS
from hushkernel.ticks import finished


class Roles:
    """The tasks of the ones, of the eyes and of the thirds, each ascending; and the doors, if there are any."""

    def __init__(self, build, ones, eyes, doors):
        """`ones` and `eyes` are lists of sides; the remaining sides are the thirds."""
        side_of = build.rules.side_of
        self.ones = tuple([task for task, side in enumerate(side_of) if side in ones])
        self.eyes = tuple([task for task, side in enumerate(side_of) if side in eyes])
        both = self.ones + self.eyes
        self.thirds = tuple([task for task in range(len(side_of)) if task not in both])
        self.doors = tuple(doors)

    def see_unlike(self, loud, quiet):
        """Whether the eyes see unlike things in a tick in which this is seen in the two kernels."""
        return sight_of(self.eyes, loud) != sight_of(self.eyes, quiet)

    def knowing_now(self, knowing, loud, quiet):
        """The thirds that know in a tick, this tick included."""
        if loud == quiet:
            return knowing
        learning = [sight[0] for sight in (loud, quiet) if sight is not None]
        return tuple([task for task in self.thirds if task in knowing or task in learning])

    def is_bound(self, knowing, loud, quiet):
        """Whether a task that has its turn in both kernels has to make the same call in both."""
        if loud is None or quiet is None or loud[0] != quiet[0]:
            return False
        return loud[0] not in self.ones and loud[0] not in knowing

    def spoken(self, kernel, call):
        """What is spoken with a call in the tick of a kernel: the call itself, or None."""
        if kernel.turn not in self.ones or call[:2] not in self.doors:
            return None
        return call if finished(kernel, call)[ANSWERS][kernel.turn] == "yes" else None


def sight_of(tasks, sight):
    """What these tasks see in a tick in which (task, answer) is seen, or nothing."""
    return sight if sight is not None and sight[0] in tasks else None


def roles_of(build, ones, eyes):
    """The roles by lists of sides that may be anything; None as eyes stands for all others."""
    check_ones(build, ones)
    return Roles(build, ones, eyes_of(build, ones, eyes), [])


def roles_with_doors(build, ones, doors, eyes):
    """Likewise, with doors that may be anything, too."""
    check_ones(build, ones)
    if not are_doors(build.rules.counts, doors):
        raise NoDoors("it is not an ascending list of doors of the build")
    return Roles(build, ones, eyes_of(build, ones, eyes), doors)


def check_ones(build, ones):
    sides = build.sides()
    if not (are_sides(sides, ones) and len(ones) < len(sides)):
        raise NoOnes("it is not an ascending list of some, but not all sides of the build")


def eyes_of(build, ones, eyes):
    """The sides that see."""
    others = [side for side in build.sides() if side not in ones]
    if not (eyes is None or are_sides(others, eyes)):
        raise NoEyes("it is neither None nor an ascending list of other sides")
    return others if eyes is None else eyes


def are_sides(sides, thing):
    """Whether it is an ascending list of at least one of these sides."""
    if not is_list(thing, 1, len(sides)):
        return False
    return all([is_integer(side) and side in sides for side in thing]) and is_ascending(thing)


def are_doors(counts, thing):
    """Whether it is an ascending list of at least one door."""
    if not (isinstance(thing, list) and len(thing) > 0):
        return False
    return all([is_right(counts, door) and is_door(door) for door in thing]) and is_ascending(thing)


def is_door(right):
    """Whether the ones can speak by a right."""
    return right[0] in ("send", "write")
