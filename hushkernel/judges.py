"""Judges of what others claim: that the ones are hushed, or that they tell something."""

from hushkernel.checks import are_tasks, are_tuples, is_tuple
from hushkernel.forms import PASS, is_call
from hushkernel.moments import Moment, is_letter_now
from hushkernel.roles import roles_of
from hushkernel.ticks import finished, letters_now, opened
from hushkernel.twins import Twins


def closed_fault(moment, ones, thing, *, eyes=None):
    """Why a list of triples does not show that the ones are hushed, or None if it does."""
    return triples_fault(moment, roles_of(moment.build(), ones, eyes), thing)


def triples_fault(moment, roles, thing):
    """Why a list of triples is not closed, or None if it is."""
    twins = Twins(moment.build(), roles)
    if not are_triples(moment.build(), roles, thing):
        return ("form",)
    trios = [twins.trio_of(loud, quiet, knowing) for loud, quiet, knowing in thing]
    listed = {trio: True for trio in trios}
    if twins.first_trio(moment) not in listed:
        return ("first",)
    for index, trio in enumerate(trios):
        harms = twins.harms(trio)
        if harms != []:
            return ("harmed", index, harms[0])
        for row, behind in twins.steps(trio):
            if behind not in listed:
                return ("open", index) + row
    return None


def are_triples(build, roles, thing):
    return isinstance(thing, list) and all([is_triple(build, roles, item) for item in thing])


def is_triple(build, roles, item):
    if not is_tuple(item, 3):
        return False
    loud, quiet, knowing = item
    if not (is_moment_of(build, loud) and is_moment_of(build, quiet) and isinstance(knowing, tuple)):
        return False
    # The phases have to be alike, since the same letters come to both.
    if loud.running()[3] != quiet.running()[3]:
        return False
    return are_tasks(knowing, len(build.tasks())) and all([task in roles.thirds for task in knowing])


def is_moment_of(build, thing):
    return isinstance(thing, Moment) and thing.build() == build


def tells_fault(moment, ones, thing, *, eyes=None):
    """Why a list of rows does not show that the ones tell something, or None if it does."""
    return rows_fault(moment, roles_of(moment.build(), ones, eyes), thing)


def rows_fault(moment, roles, thing):
    """Why a list of rows does not lead to a tick in which the eyes see unlike things, or None if it does."""
    if not (are_tuples(thing, 3) and len(thing) > 0):
        return ("form",)
    rules = moment.build().rules
    shapes = (moment.shape(), moment.shape())
    knowing = ()
    for index, row in enumerate(thing):
        if not is_letter_now(letters_now(rules, shapes[0]), row[0]):
            return ("act", index)
        loud, quiet = [opened(rules, shape, row[0]) for shape in shapes]
        parted = roles.see_unlike(loud.seen(), quiet.seen())
        if index == len(thing) - 1:
            return None if parted else ("same",)
        if parted:
            return ("parted", index)
        knowing = roles.knowing_now(knowing, loud.seen(), quiet.seen())
        if not (fits(loud, row[1]) and fits(quiet, row[2]) and are_let(roles, knowing, loud, quiet, row)):
            return ("act", index)
        if roles.spoken(loud, row[1]) != roles.spoken(quiet, row[2]):
            return ("spoken", index)
        shapes = (finished(loud, row[1]), finished(quiet, row[2]))
    return None


def fits(kernel, call):
    """Whether a call can be made in the tick of a kernel."""
    return call is None if kernel.turn is None else is_call(kernel.rules.counts, call)


def are_let(roles, knowing, loud, quiet, row):
    """Whether the two calls of a row may stand side by side: without doors the ones only pass in the quiet kernel."""
    if quiet.turn in roles.ones and roles.doors == () and row[2] != PASS:
        return False
    return row[1] == row[2] or not roles.is_bound(knowing, loud.seen(), quiet.seen())
