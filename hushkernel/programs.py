"""Programs of tasks: a kernel that is led by them, and the programs that speak a list of rows."""

from hushkernel.checks import are_tuples, is_between, is_index, is_list
from hushkernel.errors import NoActs, NoLetters, NoLong, NoRows, NoTicks, NoWhich
from hushkernel.forms import PASS
from hushkernel.instructions import LONGEST, check_programs, gone_on
from hushkernel.moments import Moment, played
from hushkernel.ticks import finished, opened


def ran(moment, programs, letters, ticks):
    """What is seen in so many ticks in which each task goes on by its program, and the moment behind them."""
    build = moment.build()
    check_programs(build, programs, ())
    check_letters(letters)
    check_ticks(ticks)
    places = [0] * len(programs)
    shape = moment.shape()
    seen = []
    for letter in letters_along(moment, letters, ticks):
        kernel = opened(build.rules, shape, letter)
        sight = kernel.seen()
        call = None
        if sight is not None:
            task, answer = sight
            call, places[task] = gone_on(programs[task], places[task], answer)
        seen.append(sight)
        shape = finished(kernel, call)
    return (seen, Moment(build, shape))


def check_letters(letters):
    if not (is_list(letters, 0, 100) and all([letter is None or is_index(letter, 2) for letter in letters])):
        raise NoLetters("it is not a list of at most 100 letters and Nones")


def check_ticks(ticks):
    if not is_between(ticks, 0, 100):
        raise NoTicks("it is not a number of ticks from 0 to 100")


def letters_along(moment, letters, ticks):
    """For each of so many ticks from a moment on, the letter that comes, or None."""
    rules = moment.build().rules
    phase = moment.running()[3]
    found = []
    used = 0
    for tick in range(phase, phase + ticks):
        letter = None
        if rules.may_come(tick) and used < len(letters):
            letter = letters[used]
            used += 1
        found.append(letter)
    return found


def speakers(moment, rows, which):
    """Programs that make the calls which rows tell for one of the two kernels."""
    if not are_tuples(rows, 3):
        raise NoRows(-1)
    if not is_index(which, 2):
        raise NoWhich("it is neither 0, for the loud kernel, nor 1, for the quiet one")
    acts = [(row[0], row[1 + which]) for row in rows[:-1]]
    try:
        seen, _ = played(moment, acts)
    except NoActs as fault:
        raise NoRows(fault.index) from None
    programs = [[] for task in moment.build().tasks()]
    for sight, act in zip(seen, acts):
        if sight is not None:
            programs[sight[0]].append(("call", act[1]))
    if any([len(program) > LONGEST for program in programs]):
        raise NoLong("a task makes more calls than a program has instructions")
    return [program if program != [] else [("call", PASS)] for program in programs]
