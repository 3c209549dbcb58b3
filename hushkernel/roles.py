"""Who tells and who sees: the ones, the eyes and the thirds of a build."""

from hushkernel.checks import is_ascending, is_integer, is_list
from hushkernel.errors import NoEyes, NoOnes


class Roles:
    """The tasks of the ones, of the eyes and of the thirds, each ascending."""

    def __init__(self, build, ones, eyes):
        """`ones` and `eyes` are lists of sides; the remaining sides are the thirds."""
        side_of = build.rules.side_of
        self.ones = tuple([task for task, side in enumerate(side_of) if side in ones])
        self.eyes = tuple([task for task, side in enumerate(side_of) if side in eyes])
        both = self.ones + self.eyes
        self.thirds = tuple([task for task in range(len(side_of)) if task not in both])

    def see_unlike(self, loud, quiet):
        """Whether the eyes see unlike things in a tick in which this is seen in the two kernels."""
        return sight_of(self.eyes, loud) != sight_of(self.eyes, quiet)

    def knowing_now(self, knowing, loud, quiet):
        """The thirds that know in a tick, this tick included."""
        if loud == quiet:
            return knowing
        learning = [sight[0] for sight in (loud, quiet) if sight is not None]
        return tuple([task for task in self.thirds if task in knowing or task in learning])

    def is_bound(self, knowing, loud, quiet):
        """Whether a task that has its turn in both kernels has to make the same call in both."""
        if loud is None or quiet is None or loud[0] != quiet[0]:
            return False
        return loud[0] not in self.ones and loud[0] not in knowing


def sight_of(tasks, sight):
    """What these tasks see in a tick in which (task, answer) is seen, or nothing."""
    return sight if sight is not None and sight[0] in tasks else None


def roles_of(build, ones, eyes):
    """The roles by lists of sides that may be anything; None as eyes stands for all others."""
    sides = build.sides()
    if not (are_sides(sides, ones) and len(ones) < len(sides)):
        raise NoOnes("it is not an ascending list of some, but not all sides of the build")
    others = [side for side in sides if side not in ones]
    if not (eyes is None or are_sides(others, eyes)):
        raise NoEyes("it is neither None nor an ascending list of other sides")
    return Roles(build, ones, others if eyes is None else eyes)


def are_sides(sides, thing):
    """Whether it is an ascending list of at least one of these sides."""
    if not is_list(thing, 1, len(sides)):
        return False
    return all([is_integer(side) and side in sides for side in thing]) and is_ascending(thing)
