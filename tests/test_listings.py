"""[3], [4], [5], [29], [33], [34]: programs as texts."""

import copy
import random
import re
import unittest

from hushkernel.builds import Build
from hushkernel.errors import NoProgram, NoText
from hushkernel.listings import program_text, read_program

from tests.helper import all_calls, all_rights, has_own_lists, odd_values, some, some_parts, some_program, spoil

PASS = ("pass",)
PARTS = some(tasks=[(0, 0), (1, 0), (1, 1)], pages=[0, 1], ports=[1, 2], locks=1, frames=1, disk=3)
BUILD = Build(**PARTS)
WORDS = {
    ("read", 1): "read 1", ("write", 0, 1): "write 0 1", ("send", 1, 0): "send 1 0", ("take", 0): "take 0", ("wait", 1): "wait 1",
    ("lock", 0): "lock 0", ("free", 0): "free 0", ("hand", 1, ("read", 0)): "hand 1 read 0",
    ("hand", 2, ("hand", 0)): "hand 2 hand 0", ("strip", 0, ("seek", 0)): "strip 0 seek 0", ("sleep", 1): "sleep 1",
    ("sleep", 2): "sleep 2", ("seek", 2): "seek 2", ("get",): "get", ("give",): "give", PASS: "pass",
}


def plain_words(step):
    """The words of an instruction, as [34] tells it."""
    if step[0] == "go":
        return ["go", str(step[1])]
    if step[0] == "if":
        return ["if", "none" if step[1] is None else step[1], str(step[2])]
    words = ["call"]
    for item in step[1]:
        words += [item[0], str(item[1])] if isinstance(item, tuple) else [str(item)]
    return words


def plain_text(program):
    return "\n".join(" ".join([str(at), *plain_words(step)]) for at, step in enumerate(program))


def all_steps(parts):
    """Each instruction that can stand in a program of twelve."""
    found = [("call", call) for call in all_calls(parts)] + [("go", place) for place in range(13)]
    return found + [("if", answer, place) for answer in (None, "yes", "no", "empty", "0", "1") for place in range(13)]


class Listing:
    """The texts of the programs of a build."""

    def __init__(self, parts):
        self.steps = {" ".join(plain_words(step)): step for step in all_steps(parts)}

    def read(self, text):
        """The program, or the line of NoText: each begin of the text is tried, with as many calls behind it as may be."""
        lines = text.split("\n")
        for at in range(len(lines)):
            if self.whole(lines[:at + 1] + [f"{more} call pass" for more in range(at + 1, 12)]) is None:
                return at
        found = self.whole(lines)
        return len(lines) if found is None else found

    def whole(self, lines):
        """The program of which these are all lines, or None."""
        program = []
        for at, line in enumerate(lines):
            word, _, rest = line.partition(" ")
            if word != str(at) or rest not in self.steps:
                return None
            program.append(self.steps[rest])
        places = [step[-1] for step in program if step[0] != "call"]
        return program if 0 < len(program) < 13 and max(places, default=0) <= len(program) else None


class TestProgramText(unittest.TestCase):
    def test_by_hand(self):
        program = [("call", ("read", 0)), ("if", None, 4), ("call", ("hand", 1, ("read", 0))), ("if", "yes", 0), ("go", 5)]
        text = "0 call read 0\n1 if none 4\n2 call hand 1 read 0\n3 if yes 0\n4 go 5"
        self.assertEqual(program_text(BUILD, program), text)
        self.assertEqual(read_program(BUILD, text), program)
        self.assertEqual(program_text(BUILD, [("call", PASS)]), "0 call pass")

    def test_each_call(self):
        for call, words in WORDS.items():
            self.assertEqual(program_text(BUILD, [("call", call)]), f"0 call {words}")
            self.assertEqual(read_program(BUILD, f"0 call {words}"), [("call", call)])
        self.assertEqual({call[0] for call in WORDS}, {call[0] for call in all_calls(PARTS)})
        for call in all_calls(PARTS):
            text = program_text(BUILD, [("call", call)])
            self.assertEqual(text, plain_text([("call", call)]))
            self.assertEqual(read_program(BUILD, text), [("call", call)])

    def test_each_answer_and_place(self):
        for count in (1, 2, 11, 12):
            for place in range(count + 1):
                for step in [("go", place), *[("if", answer, place) for answer in (None, "yes", "no", "empty", "0", "1")]]:
                    program = [("call", PASS)] * (count - 1) + [step]
                    text = program_text(BUILD, program)
                    self.assertEqual(text, plain_text(program))
                    self.assertEqual(read_program(BUILD, text), program)

    def test_many_programs(self):
        rng = random.Random(91)
        for _ in range(300):
            parts = some_parts(rng)
            build, program = Build(**parts), some_program(rng, all_calls(parts))
            text = program_text(build, program)
            self.assertEqual(text, plain_text(program))
            told = read_program(build, text)
            self.assertEqual(told, program)
            self.assertEqual([type(step) for step in told], [tuple] * len(program))
            self.assertEqual(Listing(parts).read(text), program)

    def test_no_program(self):
        def fault(program):
            with self.assertRaises(NoProgram) as caught:
                program_text(BUILD, program)
            self.assertEqual(caught.exception.task, 0)
            return caught.exception.index

        for value in [[], [("call", PASS)] * 13, (("call", PASS),), None, *odd_values()]:
            if not (isinstance(value, list) and 0 < len(value) < 13):
                with self.subTest(f"{value!r}"):
                    self.assertEqual(fault(value), -1)
            self.assertEqual(fault([("call", PASS), value]), 1)
        for step in [("call", ("read", 2)), ("call", ("seek", 3)), ("go", 9), ("if", "none", 0), ("go", True), ["go", 0],
                     ("call", ("sleep", True)), ("if", None), ("call", ("hand", 0, ("lock", 1)))]:
            for at in range(3):
                program = [("call", PASS)] * 3
                program[at] = step
                self.assertEqual(fault(program), at)
                self.assertEqual(fault([*program[:at], step, None, step]), at)
        self.assertEqual(fault([("go", 2)]), 0)


class TestReadProgram(unittest.TestCase):
    def check(self, text, build=BUILD, listing=Listing(PARTS)):
        """That it is as the plain listing tells; returns that."""
        expected = listing.read(text)
        if isinstance(expected, list):
            self.assertEqual(read_program(build, text), expected)
        else:
            self.assertEqual(self.fault(text, build), expected, text)
        return expected

    def fault(self, text, build=BUILD):
        with self.assertRaises(NoText) as caught:
            read_program(build, text)
        return caught.exception.line

    def test_no_string(self):
        for thing in odd_values():
            if not isinstance(thing, str):
                with self.subTest(f"{thing!r}"):
                    self.assertEqual(self.fault(thing), -1)
            elif thing != "":
                self.assertEqual(self.fault(thing), 0)
        self.assertEqual(self.fault(""), 0)
        self.assertEqual(self.fault("\n"), 0)

    def test_places_up_to_twelve_in_any_line(self):
        for at, words in ((0, "go"), (0, "if 0"), (1, "if none"), (6, "go"), (11, "go"), (11, "if yes")):
            for place in range(15):
                lines = [f"{line} call pass" for line in range(12)]
                lines[at] = f"{at} {words} {place}"
                if place > 12:
                    self.assertEqual(self.check("\n".join(lines)), at)
                    continue
                self.assertEqual(len(self.check("\n".join(lines))), 12)
                for many in range(at + 1, 12):
                    # Where the place is beyond the end, the text ends too early.
                    expected = self.check("\n".join(lines[:many]))
                    self.assertEqual(expected == many, place > many)

    def test_a_place_beyond_the_end(self):
        self.assertEqual(self.fault("0 go 2"), 1)
        self.assertEqual(self.fault("0 go 12\n1 call pass"), 2)
        self.assertEqual(self.fault("0 go 12\n1 call pass\n2 call"), 2)
        self.assertEqual(self.fault("0 go 12\n1 call pass\n"), 2)
        self.assertEqual(read_program(BUILD, "0 go 1"), [("go", 1)])

    def test_a_line_with_the_index_twelve(self):
        lines = [f"{line} call pass" for line in range(12)]
        self.assertEqual(len(read_program(BUILD, "\n".join(lines))), 12)
        for line in ("12 call pass", "", "0 call pass", "12 go 13", "11 call pass"):
            self.assertEqual(self.fault("\n".join([*lines, line])), 12)
            self.assertEqual(self.fault("\n".join([*lines, line, "13 call pass"])), 12)
        self.assertEqual(self.fault("\n".join([*lines[:11], "11 go 13", "12 call pass"])), 11)

    def test_an_empty_line_at_the_end(self):
        self.assertEqual(self.fault("0 call pass\n"), 1)
        self.assertEqual(self.fault("0 call pass\n\n"), 1)
        self.assertEqual(self.fault("\n0 call pass"), 0)

    def test_lines_of_another_place(self):
        lines = ["0 call read 0", "1 if yes 0", "2 go 4", "3 call pass"]
        for at in range(4):
            self.check("\n".join(lines[:at] + lines[at + 1:]))
            self.check("\n".join(lines[:at + 1] + lines[at:]))
            self.assertIn(self.fault("\n".join(lines[:at] + lines[at + 1:])), (at, 3))
            self.assertEqual(self.fault("\n".join(lines[:at + 1] + lines[at:])), at + 1)
            for other in range(at):
                changed = list(lines)
                changed[at], changed[other] = changed[other], changed[at]
                self.assertEqual(self.check("\n".join(changed)), other)

    def test_lines_that_are_none(self):
        for words in ("", "call", "call ", "call read", "call read 2", "call read 0 0", "call  read 0", "call read 0 ", "call read 00",
                      "call read -1", "call Read 0", "call write 0", "call write 0 2", "call sleep 0", "call sleep 3", "call seek 3",
                      "call hand 1", "call hand 1 read", "call hand 3 read 0", "call hand 1 read 2", "call hand 1 pass",
                      "call hand 1 seek 1", "call pass 0", "call none", "if", "if yes", "if yes 13", "if yes -1", "if yes 00",
                      "if None 0", "if 2 0", "if maybe 0", "if  0", "if 0", "if none", "go", "go 13", "go 01", "go +1", "go none",
                      "Go 0", "goto 0", "pass", "read 0", "call call pass", "call go 0", "call ('pass',)"):
            for at in range(3):
                lines = [f"{line} call pass" for line in range(at)] + [f"{at} {words}"]
                self.assertEqual(self.check("\n".join(lines)), at, words)
        for line in ("call pass", " 0 call pass", "00 call pass", "-0 call pass", "0  call pass", "0call pass", "1 call pass", "0",
                     "0 ", "none call pass", "0.0 call pass"):
            self.assertEqual(self.check(line), 0, line)

    def test_signs_changed_at_any_place(self):
        text = "0 call hand 1 read 0\n1 if none 4\n2 if 1 12\n3 go 5\n4 call write 1 0\n5 call get"
        for at in range(len(text) + 1):
            for sign in " 0-+\n1N9c":
                self.check(text[:at] + sign + text[at:])
                self.check(text[:at] + sign + text[at + 1:])
            self.check(text[:at] + text[at + 1:])

    def test_digits_beyond_all_bounds(self):
        lines = ["0 call hand 1 read 0", "1 if none 4", "2 if 1 3", "3 go 4", "4 call sleep 1"]
        for digits in ("9" * 4500, "0" * 4500, "1" + "0" * 4400):
            for at, line in enumerate(lines):
                for word in re.findall(r"\d+", line):
                    changed = line.replace(word, digits, 1)
                    self.assertEqual(self.fault("\n".join([*lines[:at], changed, *lines[at + 1:]])), at)

    def test_long_texts(self):
        self.assertEqual(self.fault("\n".join(["0 call pass"] * 400)), 1)
        self.assertEqual(self.fault("\n" * 5000), 0)
        self.assertEqual(self.fault("\n".join(f"{line} go 0" for line in range(500))), 12)

    def test_drawn_changes(self):
        rng = random.Random(92)
        met = {list: 0, int: 0}
        for _ in range(150):
            parts = some_parts(rng)
            build, listing, calls = Build(**parts), Listing(parts), all_calls(parts)
            for _ in range(6):
                lines = plain_text(some_program(rng, calls)).split("\n")
                others = plain_text(some_program(rng, calls)).split("\n")
                at = rng.randrange(len(lines))
                kind = rng.choice(["none", "cut", "other", "more", "sign", "out"])
                if kind == "cut":
                    lines = lines[:at + 1]
                elif kind == "other":
                    lines[at:] = others[at:]
                elif kind == "more":
                    lines += others
                elif kind == "sign":
                    spot = rng.randrange(len(lines[at]) + 1)
                    lines[at] = lines[at][:spot] + rng.choice(" 0123456789") + lines[at][spot + rng.randint(0, 1):]
                elif kind == "out":
                    del lines[at]
                met[type(self.check("\n".join(lines), build, listing))] += 1
        self.assertGreater(min(met.values()), 150, met)

    def test_calls_of_another_build(self):
        """A right or a thing that the build has not."""
        other = Build(**some(tasks=[(0, 0), (1, 0)], pages=[], ports=[], locks=0))
        for right in all_rights(PARTS):
            line = "0 call hand 1 %s %d" % right
            fits = right in [(word, task) for word in ("hand", "strip") for task in (0, 1)]
            if fits:
                self.assertEqual(read_program(other, line), [("call", ("hand", 1, right))])
            else:
                self.assertEqual(self.fault(line, other), 0)


class TestValues(unittest.TestCase):
    def test_lists_are_new(self):
        text = "0 call read 0\n1 go 0"
        told = read_program(BUILD, text)
        self.assertTrue(has_own_lists(told))
        saved = copy.deepcopy(told)
        spoil(told)
        self.assertEqual(read_program(BUILD, text), saved)

    def test_nothing_that_is_handed_in_is_changed(self):
        program = [("if", None, 1), ("call", ("hand", 1, ("read", 0)))]
        program_text(BUILD, program)
        self.assertEqual(program, [("if", None, 1), ("call", ("hand", 1, ("read", 0)))])
        self.assertTrue(BUILD == Build(**PARTS))


if __name__ == "__main__":
    unittest.main()
