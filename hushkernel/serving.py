"""Whether a task always comes to its turn."""

from hushkernel.checks import is_tuple
from hushkernel.errors import NoActs
from hushkernel.graphs import acts_to, graph
from hushkernel.kernels import READY
from hushkernel.moments import check_task, played
from hushkernel.ticks import letters_now


def served(moment, task, *, most=500):
    """Within how many ticks it has its turn whenever it is ready, or how it is kept from it for ever."""
    check_task(moment.build(), task)
    rows = graph(moment, most=most)
    idle = {at: idle_acts(met, behind, task) for at, (met, behind) in enumerate(rows) if met.status(task) == READY}
    ticks = ticks_to_turn(idle)
    starving = [at for at in idle if at not in ticks]
    if starving == []:
        return ("within", max(list(ticks.values()), default=0))
    at, acts = round_from(idle, ticks, starving[0])
    return ("starves", acts_to(rows, at), acts)


def idle_acts(moment, behind, task):
    """Those of the acts behind a moment in whose tick the task has no turn."""
    idle = {letter: moment.due(letter) != task for letter in letters_now(moment.build().rules, moment.shape())}
    return [act for act in behind if idle[act[0]]]


def ticks_to_turn(idle):
    """Within how many ticks the task has its turn, for each moment from which no idle acts go on for ever.

    A ready task stays ready until its turn: idle acts lead from moments at which it is ready to such moments.
    """
    before = {at: [] for at in idle}
    for at, acts in idle.items():
        for act in acts:
            before[act[2]].append(at)
    left = {at: len(acts) for at, acts in idle.items()}
    sure = [at for at in idle if left[at] == 0]
    ticks = {}
    while len(sure) > 0:
        at = sure.pop()
        ticks[at] = 1 + max([ticks[act[2]] for act in idle[at]], default=0)
        for other in before[at]:
            left[other] -= 1
            if left[other] == 0:
                sure.append(other)
    return ticks


def round_from(idle, ticks, at):
    """A moment to which idle acts lead back, and these acts; one comes to it from a moment that is not sure."""
    spots = {}
    way = []
    while at not in spots:
        spots[at] = len(way)
        way.append([act for act in idle[at] if act[2] not in ticks][0])
        at = way[-1][2]
    return (at, [(outside, call) for outside, call, _ in way[spots[at]:]])


def starves_fault(moment, task, thing):
    """Why a thing does not show that the task is kept from its turn for ever, or None if it does."""
    check_task(moment.build(), task)
    if not is_starving(thing):
        return ("form",)
    _, acts, turn = thing
    begun = moment
    for index, act in enumerate(acts + turn):
        if index == len(acts):
            begun = moment
        try:
            seen, after = played(moment, [act])
        except NoActs:
            return ("act", index)
        if index >= len(acts) and (moment.status(task) != READY or has_turn(task, seen[0])):
            return ("turn", index - len(acts))
        moment = after
    return None if moment == begun else ("round",)


def is_starving(thing):
    """Whether it looks like a claim: the word, and two lists, the second one not empty."""
    if not (is_tuple(thing, 3) and thing[0] == "starves"):
        return False
    return isinstance(thing[1], list) and isinstance(thing[2], list) and len(thing[2]) > 0


def has_turn(task, sight):
    return sight is not None and sight[0] == task
