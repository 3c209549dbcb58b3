"""Programs as texts."""

from hushkernel.errors import NoText
from hushkernel.forms import all_calls
from hushkernel.instructions import ANSWERS, LONGEST, check_program
from hushkernel.wording import Reading, spelled


def program_text(build, program):
    """The text of a program of a task."""
    check_program(build.rules.counts, 0, program)
    return "\n".join([f"{at} {spelled(step)}" for at, step in enumerate(program)])


def read_program(build, text):
    """The program whose text it is."""
    reading = Reading(text)
    steps = {spelled(step): step for step in all_instructions(build.rules.counts)}
    program = [reading.sure(lines_at(at, steps)) for at in range(min(len(reading.rows), LONGEST))]
    reading.finish()
    if any([step[0] != "call" and step[-1] > len(program) for step in program]):
        # A longer program could have these lines.
        raise NoText(len(program))
    return program


def all_instructions(counts):
    """All instructions that a program of the greatest length can have."""
    places = range(LONGEST + 1)
    found = [("call", call) for call in all_calls(counts)]
    found.extend([("if", answer, place) for answer in (None, *ANSWERS) for place in places])
    found.extend([("go", place) for place in places])
    return found


def lines_at(at, steps):
    """The instructions by the lines that stand for them at a place."""
    return {f"{at} {words}": step for words, step in steps.items()}
