"""Whether some sides can tell others anything, and the shortest way in which they do."""

from hushkernel.checks import is_between
from hushkernel.choices import sublists
from hushkernel.errors import NoMost, TooMany
from hushkernel.moments import first
from hushkernel.roles import roles_of
from hushkernel.twins import Twins


def hush(moment, ones, *, eyes=None, most=2000):
    """All triples that can be come to, if the ones are hushed; otherwise by which rows they tell something."""
    roles = roles_of(moment.build(), ones, eyes)
    check_most(most)
    return decided(moment, roles, most, "hushed")


def check_most(most):
    if not is_between(most, 1, 5000):
        raise NoMost("it is not a bound from 1 to 5000")


def decided(moment, roles, most, word):
    """The word and all triples, if none of them is harmed; otherwise the rows that lead to the first harmed one."""
    twins = Twins(moment.build(), roles)
    trios, ways, harms = searched(twins, moment, most)
    if harms == []:
        return (word, [twins.triple_of(trio) for trio in trios])
    letter = harms[0]
    return ("tells", twins.kind(trios[-1], letter), [*rows_along(ways), (letter, None, None)])


def searched(twins, moment, most):
    """The trios in their order, up to the first harmed one; the way to each, and by which letters the last is harmed.

    A way is a tuple (index, row): from which trio, and by which letter and calls, a trio was first put in.
    """
    trios = [twins.first_trio(moment)]
    ways = [None]
    known = {trios[0]: True}
    harms = twins.harms(trios[0])
    at = 0
    while harms == [] and at < len(trios):
        steps = twins.steps(trios[at])
        for row, trio in steps:
            if trio in known:
                continue
            harms = twins.harms(trio)
            if harms == [] and len(trios) == most:
                raise TooMany(most)
            known[trio] = True
            trios.append(trio)
            ways.append((at, row))
            if harms != []:
                break
        at += 1
    return (trios, ways, harms)


def rows_along(ways):
    """The rows by which the last trio was first put in."""
    rows = []
    at = len(ways) - 1
    while at > 0:
        at, row = ways[at]
        rows.append(row)
    return rows[::-1]


def hushed_sets(build, *, most=2000):
    """The ascending list of all lists of ones that are hushed at the first moment."""
    check_most(most)
    sides = build.sides()
    moment = first(build)
    asked = [ones for ones in sublists(sides) if 0 < len(ones) < len(sides)]
    return [ones for ones in asked if hush(moment, ones, most=most)[0] == "hushed"]


def learns(build, *, most=2000):
    """The ascending list of the tuples (a, b) of sides such that a tells b something."""
    check_most(most)
    sides = build.sides()
    moment = first(build)
    pairs = [(told, seeing) for told in sides for seeing in sides if told != seeing]
    return [pair for pair in pairs if hush(moment, [pair[0]], eyes=[pair[1]], most=most)[0] == "tells"]
