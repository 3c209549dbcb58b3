"""The instructions of programs: which there are, and how a task goes through them in its turn."""

from hushkernel.checks import is_between, is_list
from hushkernel.errors import NoProgram
from hushkernel.forms import PASS, is_call, word_of

ANSWERS = ("yes", "no", "empty", "0", "1")
# How many instructions a program has at most.
LONGEST = 12
# After so many instructions "if" and "go" in one turn, a task gives up and passes.
PATIENCE = 24


def check_programs(build, programs, aside):
    """The programs of the tasks that stand aside are not looked at."""
    rules = build.rules
    if not is_list(programs, rules.task_count, rules.task_count):
        raise NoProgram(-1, -1)
    for task, program in enumerate(programs):
        if task not in aside:
            check_program(rules.counts, task, program)


def check_program(counts, task, thing):
    if not is_list(thing, 1, LONGEST):
        raise NoProgram(task, -1)
    for index, item in enumerate(thing):
        if not is_instruction(counts, len(thing), item):
            raise NoProgram(task, index)


def is_instruction(counts, end, thing):
    word = word_of(thing)
    if word == "call":
        return len(thing) == 2 and is_call(counts, thing[1])
    if word == "if":
        return len(thing) == 3 and is_answer(thing[1]) and is_between(thing[2], 0, end)
    return word == "go" and len(thing) == 2 and is_between(thing[1], 0, end)


def is_answer(thing):
    return thing is None or thing in ANSWERS


def gone_on(program, place, answer):
    """The call of a turn in which this answer is seen, and the place at which the program stands then."""
    for _ in range(PATIENCE):
        if place == len(program):
            break
        step = program[place]
        if step[0] == "call":
            return (step[1], place + 1)
        if step[0] == "go":
            place = step[1]
        elif answer == step[1]:
            place = step[2]
        else:
            place += 1
    return (PASS, place)
