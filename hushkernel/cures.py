"""Cures of builds: changes by which the ones can tell less."""

from hushkernel.builds import Build
from hushkernel.checks import is_ascending, is_list
from hushkernel.choices import sublists
from hushkernel.errors import NoCures
from hushkernel.hushes import check_most, hush
from hushkernel.moments import first
from hushkernel.roles import roles_of

CURES = ("cold", "cut", "pad", "share", "slots", "still", "wipe")
SEEK = ("seek", 0)
# A slot has no more ticks.
LONGEST = 12


def cured(build, ones, names):
    """The build with the cures of these names."""
    roles = roles_of(build, ones, None)
    if not are_cures(names):
        raise NoCures("it is not an ascending list of cures")
    lines = [None for line in build.lines()] if "cold" in names else build.lines()
    disk = 0 if "still" in names else build.disk()
    plan = slots_for(build) if "slots" in names else build.plan()
    return Build(
        build.tasks(), build.pages(), build.ports(), build.locks(), build.frames(), disk,
        cured_rights(build, roles, names), lines, build.costs(), plan, build.outside(),
        wipe=build.wipe() or "wipe" in names,
        pad=build.pad() or "pad" in names,
        lend=build.lend(),
        share=build.share() or "share" in names,
    )


def are_cures(names):
    if not is_list(names, 0, len(CURES)):
        return False
    return all([name in CURES for name in names]) and is_ascending(names)


def slots_for(build):
    """A slot for each task, long enough for two calls and a switch, if a slot may be so long."""
    rules = build.rules
    ticks = min(2 * rules.greatest + rules.switch, LONGEST)
    return ("slots", [(task, ticks) for task in range(rules.task_count)])


def cured_rights(build, roles, names):
    rows = build.rights()
    if "cut" in names:
        rows = cut_rights(build, roles)
    if "still" in names:
        rows = [[right for right in row if right != SEEK] for row in rows]
    return rows


def cut_rights(build, roles):
    rows = build.rights()
    theirs = [right for other in roles.eyes for right in rows[other]]
    port = build.rules.letter_port
    found = []
    for task, row in enumerate(rows):
        if task in roles.ones:
            found.append([right for right in row if not reaches(right, theirs, port, roles.eyes)])
        else:
            found.append([right for right in row if not rules_over(right, roles.ones)])
    return found


def reaches(right, theirs, port, others):
    """Whether a right of the ones concerns what the others have rights for, or the port to which letters come."""
    word, index = right
    if word == "write":
        return ("read", index) in theirs
    if word in ("send", "take"):
        return index == port or ("send", index) in theirs or ("take", index) in theirs
    if word in ("lock", "seek"):
        return right in theirs
    return rules_over(right, others)


def rules_over(right, tasks):
    """Whether it is a right to hand rights to some tasks, or to strip them."""
    return right[0] in ("hand", "strip") and right[1] in tasks


def fewest(build, ones, *, most=2000):
    """All lists of the least number of cures with which the ones are hushed."""
    roles_of(build, ones, None)
    check_most(most)
    asked = []
    for many in range(len(CURES) + 1):
        lists = [names for names in sublists(CURES) if len(names) == many]
        found = [names for names in lists if is_hushed(asked, cured(build, ones, names), ones, most)]
        if found != []:
            return found
    return []


def is_hushed(asked, build, ones, most):
    """Whether the ones are hushed; builds that were asked already are remembered, as some cures change nothing."""
    for other, answer in asked:
        if other == build:
            return answer
    answer = hush(first(build), ones, most=most)[0] == "hushed"
    asked.append((build, answer))
    return answer
