"""Whether some sides tell others anything beside doors, and which doors are enough."""

from hushkernel.choices import sublists
from hushkernel.hushes import check_most, decided, hush
from hushkernel.moments import first
from hushkernel.roles import is_door, roles_of, roles_with_doors


def kept(moment, ones, doors, *, eyes=None, most=2000):
    """All triples that can be come to, if the ones are kept to the doors; otherwise how they tell something beside."""
    roles = roles_with_doors(moment.build(), ones, doors, eyes)
    check_most(most)
    return decided(moment, roles, most, "kept")


def least_doors(build, ones, *, most=2000):
    """All lists of the least number of doors to which the ones are kept."""
    roles = roles_of(build, ones, None)
    check_most(most)
    doors = doors_at_first(build, roles)
    lists = sublists(doors)
    for many in range(len(doors) + 1):
        found = [row for row in lists if len(row) == many and are_enough(build, ones, row, most)]
        if found != []:
            return found
    return []


def doors_at_first(build, roles):
    """The doors that some task of the ones has among its rights at first, ascending."""
    rows = build.rights()
    return sorted(set([right for task in roles.ones for right in rows[task] if is_door(right)]))


def are_enough(build, ones, doors, most):
    """Whether the ones are kept to the doors; without any, whether they are hushed."""
    moment = first(build)
    if doors == []:
        return hush(moment, ones, most=most)[0] == "hushed"
    return kept(moment, ones, doors, most=most)[0] == "kept"


def through(moment, ones, doors, *, eyes=None, most=2000):
    """What the doors are used for: for nothing, for all that the ones tell, or not for all of it."""
    roles_with_doors(moment.build(), ones, doors, eyes)
    check_most(most)
    told = hush(moment, ones, eyes=eyes, most=most)
    if told[0] == "hushed":
        return ("silent",)
    beside = kept(moment, ones, doors, eyes=eyes, most=most)
    if beside[0] == "kept":
        return ("kept", told[2])
    return ("beside", beside[2])
