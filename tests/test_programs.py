"""[3], [4], [5], [29]: programs of tasks, and the programs that speak the rows of two kernels."""

import copy
import random
import unittest

from hushkernel.builds import Build
from hushkernel.errors import NoLetters, NoLong, NoProgram, NoRows, NoTicks, NoWhich, TooMany
from hushkernel.hushes import hush
from hushkernel.doors import kept
from hushkernel.moments import first, played
from hushkernel.programs import ran, speakers

from tests.helper import (all_calls, all_rights, has_own_lists, later, led, letters_of, odd_values, plain_ran, some,
                          some_letters, some_parts, some_program, some_programs, some_roles, spoil, start, twin_parts)

PASS = ("pass",)
LAST = (None, None, None)
IDLE = [("call", PASS)]
WRITE = ("call", ("write", 0, 1))
# Task 0 has its turn at each tick; no other task ever has one.
ALONE = dict(pages=[0, 0, 1], ports=[2], locks=1, plan=("slots", [(0, 1)]), costs=(1, 0, 0),
             rights=[[("read", 0), ("read", 2), ("send", 0), ("take", 0), ("write", 0)], []])
# Calls that get each answer.
ANSWERING = {
    "yes": PASS, "no": ("read", 1), "0": ("read", 0), "1": ("read", 2), "empty": ("take", 0),
}


def alone(**changes):
    """The first moment of a build in which task 0 alone has turns."""
    return start(**{**ALONE, **changes})


def led_by(program, ticks, moment=None, letters=()):
    """What task 0 sees, by its answers, and the last moment."""
    seen, behind = ran(alone() if moment is None else moment, [program, IDLE], list(letters), ticks)
    return [None if sight is None else sight[1] for sight in seen], behind


class TestAgainstPlainRun(unittest.TestCase):
    def test_many_builds(self):
        rng = random.Random(51)
        for _ in range(220):
            parts = some_parts(rng)
            build = Build(**parts)
            moment = later(rng, first(build), rng.choice([0, 0, 7]))
            for _ in range(2):
                programs, letters = some_programs(rng, parts), some_letters(rng, rng.choice([0, 3, 40, 100]))
                ticks = rng.choice([0, 1, 30, 60, 100])
                seen, behind = ran(moment, programs, letters, ticks)
                expected, last = plain_ran(moment, programs, letters, ticks)
                self.assertEqual(seen, expected)
                self.assertTrue(behind == last)
                self.assertEqual(len(seen), ticks)

    def test_programs_that_go_round(self):
        """Programs of "if" and "go" alone but for two calls: most turns end by the 24 instructions, or at the end."""
        rng = random.Random(52)
        parts = some(**ALONE)
        stuck = 0
        for _ in range(400):
            count = rng.randint(2, 12)
            program = [rng.choice([("go", rng.randint(0, count)), ("if", rng.choice(["yes", None, "0"]), rng.randint(0, count))])
                       for _ in range(count)]
            for call in (("read", 0), ("write", 0, 1)):
                program[rng.randrange(count)] = ("call", call)
            seen, behind = led_by(program, 25)
            expected, last = plain_ran(first(Build(**parts)), [program, IDLE], [], 25)
            self.assertEqual(seen, [sight[1] for sight in expected])
            self.assertTrue(behind == last)
            stuck += seen.count("0") > 0
        self.assertGreater(stuck, 50)


class TestInstructions(unittest.TestCase):
    def test_if_on_each_answer(self):
        """It branches exactly where the answer that has just been seen is the one told."""
        for given, call in ANSWERING.items():
            for told in (None, *ANSWERING):
                program = [("call", call), ("if", told, 3), ("go", 4), WRITE]
                _, behind = led_by(program, 3)
                self.assertEqual(behind.pages()[0], 1 if told == given else 0, (given, told))

    def test_if_on_none(self):
        for told in (None, *ANSWERING):
            self.assertEqual(led_by([("if", told, 2), ("go", 3), WRITE], 1)[1].pages()[0], 1 if told is None else 0)

    def test_if_looks_at_the_answer_of_this_turn_alone(self):
        """The answer "0" of the first call is gone when the second one is answered."""
        program = [("call", ("read", 0)), ("call", PASS), ("if", "0", 4), ("go", 5), WRITE]
        self.assertEqual(led_by(program, 5)[1].pages()[0], 0)
        program = [("call", ("read", 0)), ("if", "0", 3), ("go", 5), ("if", "0", 4), WRITE]
        self.assertEqual(led_by(program, 3)[1].pages()[0], 1)

    def test_go_forwards_backwards_to_itself_and_to_the_end(self):
        self.assertEqual(led_by([("go", 2), WRITE, ("call", ("read", 0))], 3)[0], [None, "0", "yes"])
        self.assertEqual(led_by([("call", ("read", 2)), ("go", 0)], 4)[0], [None, "1", "1", "1"])
        self.assertEqual(led_by([("go", 0)], 4)[0], [None, "yes", "yes", "yes"])
        self.assertEqual(led_by([("go", 2), WRITE], 4)[0], [None, "yes", "yes", "yes"])
        self.assertEqual(led_by([("go", 2), WRITE], 4)[1].pages()[0], 0)

    def test_the_end(self):
        """Behind the last call the task passes for ever."""
        self.assertEqual(led_by([("call", ("read", 2)), ("call", ("read", 1))], 5)[0], [None, "1", "no", "yes", "yes"])

    def test_twelve_instructions(self):
        program = [("call", ("read", 2))] * 11 + [("call", ("read", 0))]
        self.assertEqual(led_by(program, 14)[0], [None] + ["1"] * 11 + ["0", "yes"])
        program = [("go", 11)] + [WRITE] * 10 + [("if", None, 12)]
        self.assertEqual(led_by(program, 3)[0], [None, "yes", "yes"])
        self.assertEqual(led_by(program, 3)[1].pages()[0], 0)

    def test_where_a_program_stands_behind_24_instructions(self):
        """It goes round `size` places; at the next turn, with an answer, it leaves from where it stands."""
        for size in (1, 2, 3, 4, 5, 6):
            program = [("if", "yes", size + at) for at in range(size)]
            # Going round: the last place leads to the first one, so it is a "go" there.
            program = program[:size - 1] + [("go", 0)] + [("call", ("write", 0, at % 2)) for at in range(size)]
            seen, behind = ran(alone(), [program, IDLE], [], 2)
            expected, last = plain_ran(alone(), [program, IDLE], [], 2)
            self.assertEqual(seen, expected)
            self.assertTrue(behind == last)

    def test_24_instructions_by_hand(self):
        """A round of five: behind 24 instructions it stands at place 4, and goes on from there to place 0."""
        program = [("if", "yes", 6), ("if", "yes", 5), ("if", "yes", 5), ("if", "yes", 5), ("go", 0),
                   ("call", ("read", 0)), ("call", ("read", 2))]
        self.assertEqual(led_by(program, 3)[0], [None, "yes", "1"])
        # A round of seven: 24 instructions end at place 3.
        program = [("if", "yes", 7), ("if", "yes", 7), ("if", "yes", 7), ("if", "yes", 8), ("if", "yes", 7), ("if", "yes", 7),
                   ("go", 0), ("call", ("read", 0)), ("call", ("read", 2))]
        self.assertEqual(led_by(program, 3)[0], [None, "yes", "1"])
        # Rounds of 8 and of 11 end at the places 0 and 2.
        program = [("if", "yes", 9), *[("if", "yes", 8)] * 6, ("go", 0), ("call", ("read", 0)), ("call", ("read", 2))]
        self.assertEqual(led_by(program, 3)[0], [None, "yes", "1"])
        program = [("if", "yes", 11), ("if", "yes", 11), ("go", 3), *[("if", "yes", 11)] * 7, ("go", 0), WRITE]
        self.assertEqual(led_by(program, 2)[1].pages()[0], 1)

    def test_a_task_goes_on_only_in_its_turns(self):
        moment = start(tasks=[(0, 0), (1, 0)], plan=("slots", [(0, 1), (1, 2)]), costs=(2, 0, 0), pages=[0],
                       rights=[[("write", 0)], [("read", 0)]])
        seen, _ = ran(moment, [[WRITE], [("call", ("read", 0)), ("go", 0)]], [], 9)
        self.assertEqual([sight for sight in seen if sight is not None], [(1, None), (1, "0"), (1, "0")])
        self.assertEqual([tick for tick, sight in enumerate(seen) if sight], [1, 4, 7])

    def test_a_waiting_task_sees_the_letter(self):
        program = [("call", ("wait", 0)), ("if", "1", 3), ("go", 4), WRITE]
        for letter in (0, 1):
            moment = alone(outside=(0, 4), ports=[1])
            seen, behind = ran(moment, [program, IDLE], [None, letter], 5)
            self.assertEqual(seen, [(0, None), None, None, None, (0, str(letter))])
            self.assertEqual(behind.pages()[0], letter)


class TestLetters(unittest.TestCase):
    def come(self, letters, ticks=9, **changes):
        """The letters of the port behind the run: task 0 does nothing."""
        moment = alone(**{"ports": [2], "outside": (0, 2), **changes})
        return ran(moment, [IDLE, IDLE], letters, ticks)[1].ports()[0]

    def test_only_at_ticks_at_which_one_may_come(self):
        self.assertEqual(self.come([1, 0], 2), [1])
        self.assertEqual(self.come([1, 0], 3), [1, 0])
        self.assertEqual(self.come([1, 0], 3, outside=(0, 3)), [1])
        self.assertEqual(self.come([1, 0], 4, outside=(0, 3)), [1, 0])
        self.assertEqual(self.come([1, 0], 2, outside=(0, 1)), [1, 0])

    def test_none_is_an_item_too(self):
        self.assertEqual(self.come([None, 1], 3), [1])
        self.assertEqual(self.come([None, 1], 2), [])
        self.assertEqual(self.come([None, None, None, 0], 6), [])
        self.assertEqual(self.come([None, None, None, 0], 7), [0])

    def test_the_list_ends_early(self):
        self.assertEqual(self.come([], 9), [])
        self.assertEqual(self.come([1], 9), [1])

    def test_without_letters_from_outside(self):
        self.assertEqual(self.come([1, 0, 1], 9, outside=None), [])
        moment = alone(ports=[], rights=[[], []])
        self.assertEqual(ran(moment, [IDLE, IDLE], [0, 1] * 50, 3)[0], [(0, None), (0, "yes"), (0, "yes")])

    def test_from_a_later_phase(self):
        moment = led(alone(outside=(0, 3), ports=[2]), PASS)[1]
        self.assertEqual(ran(moment, [IDLE, IDLE], [1, 0], 2)[1].ports(), [[]])
        self.assertEqual(ran(moment, [IDLE, IDLE], [1, 0], 3)[1].ports(), [[1]])
        self.assertEqual(ran(moment, [IDLE, IDLE], [1, 0], 6)[1].ports(), [[1, 0]])

    def test_a_hundred_letters(self):
        moment = alone(outside=(0, 1), ports=[2])
        program = [("call", ("take", 0)), ("go", 0)]
        letters = some_letters(random.Random(5), 100)
        seen, _ = ran(moment, [program, IDLE], letters, 100)
        answers = ["empty" if letter is None else str(letter) for letter in letters]
        self.assertEqual([answer for _, answer in seen], [None, *answers[:99]])


class TestTicks(unittest.TestCase):
    def test_no_ticks(self):
        moment = led(alone(), ("read", 0))[1]
        seen, behind = ran(moment, [[WRITE], IDLE], [], 0)
        self.assertEqual(seen, [])
        self.assertTrue(behind == moment)

    def test_a_hundred_ticks(self):
        seen, behind = ran(alone(), [[("call", ("read", 2)), ("go", 0)], IDLE], [], 100)
        self.assertEqual(seen, [(0, None), *[(0, "1")] * 99])
        self.assertEqual(behind.answer(0), "1")

    def test_the_last_moment_has_all_answers(self):
        self.assertEqual(ran(alone(), [[("call", ("read", 2))], IDLE], [], 1)[1].answer(0), "1")

    def test_from_a_moment_that_is_not_the_first(self):
        """Its answer is seen in the first turn."""
        moment = led(alone(), ("read", 2))[1]
        self.assertEqual(led_by([("if", "1", 2), ("go", 3), WRITE], 1, moment)[1].pages()[0], 1)
        self.assertEqual(led_by([("if", None, 2), ("go", 3), WRITE], 1, moment)[1].pages()[0], 0)


def no_instructions(end=1):
    """Things that are no instruction of a program of `end` instructions, in the build of `alone`."""
    calls = [("read", 3), ("read", True), ("seek", 0), ("sleep", 0), ("sleep", 3), ("pass", 0), ["pass"], None, "pass", (),
             ("write", 0), ("write", 0, 2), ("write", 0, True), ("hand", 1, ("seek", 0)), ("hand", 2, ("read", 0)),
             ("hand", 0, ["read", 0]), ("lock", 1), ("no",), ("read", 0, 0), ("if", None, 0), ("go", 0)]
    found = [("call", call) for call in calls]
    found += [("call",), ("call", PASS, 0), ["call", PASS], "call", PASS, ("read", 0)]
    found += [("if", answer, 0) for answer in ("Yes", "none", "", 0, 1, True, False, "2", ("yes",), ["yes"], [], "asleep")]
    found += [("if", "yes", place) for place in (-1, end + 1, True, False, None, "0", 0.0, (0,), 10 ** 30)]
    found += [("go", place) for place in (-1, end + 1, True, False, None, "0", 0.0, [0], 10 ** 30)]
    found += [("if",), ("if", "yes"), ("if", "yes", 0, 0), ("go",), ("go", 0, 0), ["go", 0], ["if", "yes", 0], "go", ("goto", 0),
              ("Go", 0), ("IF", "yes", 0), (None, 0), (0,), ()]
    return [*found, *odd_values()]


class TestErrors(unittest.TestCase):
    def fault(self, programs, letters=(), ticks=0, moment=None):
        with self.assertRaises(NoProgram) as caught:
            ran(alone() if moment is None else moment, programs, letters, ticks)
        return caught.exception.task, caught.exception.index

    def test_no_programs(self):
        for programs in [[], [IDLE], [IDLE] * 3, (IDLE, IDLE), {0: IDLE, 1: IDLE}, None, "ab", *odd_values()]:
            if not (isinstance(programs, list) and len(programs) == 2):
                with self.subTest(f"{programs!r}"):
                    self.assertEqual(self.fault(programs, None, None), (-1, -1))
        self.assertEqual(self.fault([IDLE] * 3, moment=start(tasks=[(0, 0), (1, 0), (2, 0), (3, 0)])), (-1, -1))

    def test_no_program_of_a_task(self):
        for program in [[], IDLE * 13, tuple(IDLE), {0: IDLE[0]}, None, "a", 0, *odd_values()]:
            if not (isinstance(program, list) and 0 < len(program) < 13):
                with self.subTest(f"{program!r}"):
                    self.assertEqual(self.fault([program, program], None, None), (0, -1))
                    self.assertEqual(self.fault([IDLE, program], None, None), (1, -1))
        self.assertEqual(ran(alone(), [IDLE * 12, IDLE], [], 1)[0], [(0, None)])

    def test_no_instruction(self):
        for item in no_instructions():
            with self.subTest(f"{item!r}"):
                self.assertEqual(self.fault([[item], [item]], None, None), (0, 0))
                self.assertEqual(self.fault([IDLE, [item]], None, None), (1, 0))
        for item in no_instructions(12):
            for at in (0, 5, 11):
                program = IDLE * at + [item] + [None] * (11 - at)
                self.assertEqual(self.fault([program, None], None, None), (0, at))

    def test_places(self):
        """The number of instructions is a place, one more is none."""
        for count in range(1, 13):
            for word in (("go",), ("if", "no"), ("if", None)):
                program = IDLE * (count - 1) + [(*word, count)]
                self.assertEqual(len(ran(alone(), [program, program], [], 14)[0]), 14)
                self.assertEqual(self.fault([program[:-1] + [(*word, count + 1)], IDLE]), (0, count - 1))
                self.assertEqual(self.fault([[(*word, count + 1), *program[1:]], IDLE]), (0, 0))

    def test_each_call_of_the_build(self):
        parts = some(**ALONE)
        for call in all_calls(parts):
            self.assertEqual(len(ran(first(Build(**parts)), [[("call", call)], IDLE], [], 1)[0]), 1)

    def test_the_first_task(self):
        self.assertEqual(self.fault([IDLE * 13, []]), (0, -1))
        self.assertEqual(self.fault([[IDLE[0], 7, 8], []]), (0, 1))
        self.assertEqual(self.fault([IDLE, [IDLE[0], 7, 8]]), (1, 1))

    def test_no_letters(self):
        wrong = [[2], [-1], [True], [None, False], ["0"], [0, 1, [0]], (0, 1), {0: 1}, None, 0, "01", [None] * 101, [0] * 101,
                 [[]], [0.0]]
        for letters in [*wrong, *odd_values()]:
            if not (isinstance(letters, list) and all(item is None or (type(item) is int and 0 <= item <= 1) for item in letters)
                    and len(letters) < 101):
                with self.subTest(f"{letters!r}"), self.assertRaises(NoLetters):
                    ran(alone(), [IDLE, IDLE], letters, None)
                with self.subTest(f"{letters!r}"), self.assertRaises(NoLetters):
                    ran(alone(outside=(0, 1)), [IDLE, IDLE], letters, None)
        self.assertEqual(ran(alone(), [IDLE, IDLE], [None, 0, 1, None] * 25, 0)[0], [])

    def test_no_ticks(self):
        for ticks in [-1, 101, True, False, None, "1", 1.0, [1], 10 ** 30, *odd_values()]:
            if not (type(ticks) is int and 0 <= ticks <= 100):
                with self.subTest(f"{ticks!r}"), self.assertRaises(NoTicks):
                    ran(alone(), [IDLE, IDLE], [], ticks)

    def test_the_order(self):
        with self.assertRaises(NoProgram):
            ran(alone(), [IDLE, [None]], [2], 101)
        with self.assertRaises(NoLetters):
            ran(alone(), [IDLE, IDLE], [2], 101)
        with self.assertRaises(NoTicks):
            ran(alone(), [IDLE, IDLE], [1], 101)


class TestSpeakers(unittest.TestCase):
    def setUp(self):
        self.moment = start(tasks=[(1, 0), (0, 2)], pages=[1], ports=[], locks=0, rights=[[("read", 0)], [("write", 0)]],
                            plan=("slots", [(0, 2), (1, 1)]))
        self.rows = hush(self.moment, [0])[2]
        self.read = ("call", ("read", 0))

    def fault(self, rows, which=0):
        with self.assertRaises(NoRows) as caught:
            speakers(self.moment, rows, which)
        return caught.exception.index

    def test_rows_of_hush(self):
        self.assertEqual(speakers(self.moment, self.rows, 0), [[self.read] * 3, [("call", ("write", 0, 0))]])
        self.assertEqual(speakers(self.moment, self.rows, 1), [[self.read] * 3, [("call", PASS)]])

    def test_no_rows(self):
        for which in (0, 1):
            self.assertEqual(speakers(self.moment, [], which), [[("call", PASS)], [("call", PASS)]])

    def test_one_row_is_the_last_one(self):
        for row in [LAST, (0, 1, 2), (None, None, ()), ("x", [], {})]:
            for which in (0, 1):
                self.assertEqual(speakers(self.moment, [row], which), [[("call", PASS)], [("call", PASS)]])

    def test_nothing_is_looked_at_in_the_last_row(self):
        told = speakers(self.moment, self.rows, 0)
        for value in odd_values():
            self.assertEqual(speakers(self.moment, [*self.rows[:-1], (value, value, value)], 0), told)

    def test_nothing_is_looked_at_in_the_calls_of_the_other_kernel(self):
        for value in odd_values():
            rows = [(letter, one, value) for letter, one, _ in self.rows]
            self.assertEqual(speakers(self.moment, rows, 0), speakers(self.moment, self.rows, 0))
            rows = [(letter, value, other) for letter, _, other in self.rows]
            self.assertEqual(speakers(self.moment, rows, 1), speakers(self.moment, self.rows, 1))

    def test_a_task_without_a_call(self):
        moment = start(plan=("slots", [(0, 1)]))
        rows = [(None, ("sleep", 1), PASS), (None, PASS, PASS), LAST]
        self.assertEqual(speakers(moment, rows, 0), [[("call", ("sleep", 1)), ("call", PASS)], [("call", PASS)]])

    def test_calls_without_a_turn_are_none(self):
        moment = start(plan=("slots", [(0, 1)]))
        rows = [(None, ("sleep", 2), PASS), (None, None, PASS), (None, PASS, ("sleep", 1)), LAST]
        self.assertEqual(speakers(moment, rows, 0)[0], [("call", ("sleep", 2)), ("call", PASS)])
        self.assertEqual(speakers(moment, rows, 1)[0], [("call", PASS), ("call", PASS), ("call", ("sleep", 1))])

    def test_twelve_and_thirteen_calls(self):
        moment = start(plan=("slots", [(0, 1), (1, 1)]))
        row = (None, PASS, ("sleep", 1))
        for many in (11, 12):
            rows = [(None, PASS, PASS)] * (2 * many) + [LAST]
            self.assertEqual([len(program) for program in speakers(moment, rows, 0)], [many, many])
        rows = [(None, PASS, PASS)] * 24
        self.assertEqual([len(program) for program in speakers(moment, [*rows, row], 0)], [12, 12])
        for last in ([row, LAST], [row, row, LAST]):
            with self.assertRaises(NoLong):
                speakers(moment, [*rows, *last], 0)
        with self.assertRaises(NoLong):
            speakers(moment, [*rows[:23], (None, PASS, PASS), (None, PASS, PASS), LAST], 1)

    def test_a_row_that_does_not_fit_goes_ahead_of_a_long_program(self):
        moment = start(plan=("slots", [(0, 1)]))
        rows = [(None, PASS, PASS)] * 99
        with self.assertRaises(NoLong):
            speakers(moment, [*rows, LAST], 0)
        with self.assertRaises(NoRows) as caught:
            speakers(moment, [*rows[:70], (0, PASS, PASS), *rows[71:], LAST], 0)
        self.assertEqual(caught.exception.index, 70)

    def test_not_a_list_of_threes(self):
        for rows in [(), tuple(self.rows), [[None, None, None]], [(None, None)], [*self.rows, None], [(1, 2, 3, 4)], {0: LAST}, None]:
            self.assertEqual(self.fault(rows, None), -1)
        for value in odd_values():
            if value != []:
                with self.subTest(f"{value!r}"):
                    self.assertEqual(self.fault(value, None), -1)
            if not (isinstance(value, tuple) and len(value) == 3):
                self.assertEqual(self.fault([*self.rows, value], None), -1)
                self.assertEqual(self.fault([value, *self.rows], 0), -1)

    def test_no_which(self):
        for which in [2, -1, True, False, None, "0", 0.0, [0], (1,), *odd_values()]:
            if not (type(which) is int and which in (0, 1)):
                for rows in (self.rows, [], [(7, 7, 7), LAST]):
                    with self.subTest(f"{which!r}"), self.assertRaises(NoWhich):
                        speakers(self.moment, rows, which)

    def test_rows_that_do_not_fit(self):
        for at in range(4):
            letter, one, other = self.rows[at]
            for wrong in [(0, one, other), (True, one, other), (letter, None, other), (letter, ("read", 1), other),
                          (letter, ("read", True), other)]:
                self.assertEqual(self.fault([*self.rows[:at], wrong, *self.rows[at + 1:]]), at)
            for wrong in [(1, one, other), (letter, one, None), (letter, one, ["pass"])]:
                self.assertEqual(self.fault([*self.rows[:at], wrong, *self.rows[at + 1:]], 1), at)
        self.assertEqual(self.fault([*self.rows[:2], (None, 7, 7), (None, 7, 7), LAST]), 2)

    def test_lists_are_new(self):
        for rows in (self.rows, []):
            told = speakers(self.moment, rows, 0)
            self.assertTrue(has_own_lists(told))
            saved = copy.deepcopy(told)
            spoil(told)
            self.assertEqual(speakers(self.moment, rows, 0), saved)

    def test_nothing_that_is_handed_in_is_changed(self):
        rows, saved = list(self.rows), list(self.rows)
        speakers(self.moment, rows, 0)
        self.assertEqual(rows, saved)


class TestValues(unittest.TestCase):
    def test_lists_are_new(self):
        programs, letters = [[("call", ("read", 0)), ("go", 0)], IDLE], [0, None]
        told = ran(alone(), programs, letters, 4)
        self.assertTrue(has_own_lists(told))
        saved = list(told[0])
        spoil(told)
        self.assertEqual(ran(alone(), programs, letters, 4)[0], saved)

    def test_nothing_that_is_handed_in_is_changed(self):
        moment, saved = alone(outside=(0, 1)), alone(outside=(0, 1))
        programs, letters = [[("if", None, 1), ("call", ("read", 0)), ("go", 0)], [("go", 0)]], [0, None, 1]
        ran(moment, programs, letters, 9)
        self.assertEqual(programs, [[("if", None, 1), ("call", ("read", 0)), ("go", 0)], [("go", 0)]])
        self.assertEqual(letters, [0, None, 1])
        self.assertTrue(moment == saved)

    def test_equal_programs_go_on_each_for_itself(self):
        """Also where they are the same object."""
        program = [("call", ("read", 0)), ("call", ("read", 2)), ("go", 2)]
        moment = alone(plan=("slots", [(0, 1), (1, 1)]), rights=[[("read", 0), ("read", 2)]] * 2)
        seen, _ = ran(moment, [program, program], [], 6)
        self.assertEqual(seen, [(0, None), (1, None), (0, "0"), (1, "0"), (0, "1"), (1, "1")])


class TestFacts(unittest.TestCase):
    def test_hushed_ones(self):
        """What the others see does not hang on the programs of hushed ones."""
        rng = random.Random(53)
        hushed = 0
        while hushed < 40:
            parts = twin_parts(rng)
            build = Build(**parts)
            ones, _ = some_roles(rng, build)
            moment = later(rng, first(build), rng.choice([0, 0, 5]))
            try:
                if hush(moment, ones, most=400)[0] != "hushed":
                    continue
            except TooMany:
                continue
            hushed += 1
            mine = [task for task, (side, _) in enumerate(parts["tasks"]) if side in ones]
            for _ in range(5):
                programs, letters = some_programs(rng, parts), some_letters(rng, 40)
                others = some_programs(rng, parts)
                others = [other if task in mine else own for task, (own, other) in enumerate(zip(programs, others))]
                lists = [ran(moment, row, letters, 60)[0] for row in (programs, others)]
                one, other = [[sight if sight and sight[0] not in mine else None for sight in seen] for seen in lists]
                self.assertEqual(one, other)

    def test_programs_of_speakers(self):
        """With the letters of the rows they see what the rows' kernel sees."""
        rng = random.Random(54)
        met = {"hush": 0, "kept": 0, "letters": 0}
        for _ in range(400):
            parts = twin_parts(rng)
            if parts["ports"]:
                parts["outside"] = (0, rng.randint(1, 3))
                if rng.random() < 0.5:
                    # Nothing to tell but which letters are left.
                    parts["rights"] = [[("take", 0)] for _ in parts["tasks"]]
            build = Build(**parts)
            ones, eyes = some_roles(rng, build)
            moment = later(rng, first(build), rng.choice([0, 0, 5]))
            doors = [right for right in all_rights(parts) if right[0] in ("send", "write")]
            for word in ("hush", "kept"):
                try:
                    told = hush(moment, ones, eyes=eyes, most=200) if word == "hush" or not doors else \
                        kept(moment, ones, doors, eyes=eyes, most=200)
                except TooMany:
                    continue
                if told[0] == "tells":
                    met[word] += 1
                    self.compare(moment, told[2], met)
        self.assertGreater(min(met.values()), 4, met)

    def compare(self, moment, rows, met):
        for which in (0, 1):
            try:
                programs = speakers(moment, rows, which)
            except NoLong:
                continue
            letters, at, acts = [], moment, []
            for letter, *calls in rows[:-1]:
                letters += [letter] if len(letters_of(at)) == 3 else []
                acts.append((letter, calls[which]))
                at = at.tick(*acts[-1])[1]
            last = rows[-1][0]
            letters += [last] if len(letters_of(at)) == 3 else []
            call = None if at.due(last) is None else PASS
            acts.append((last, call))
            met["letters"] += any(letter is not None for letter in letters)
            self.assertEqual(ran(moment, programs, letters, len(rows))[0], played(moment, acts)[0])

    def test_rows_of_a_single_kernel(self):
        """Rows of any calls that fit, not only those of a search; also of one with twelve calls of each task."""
        rng = random.Random(55)
        met = 0
        while met < 80:
            parts = twin_parts(rng)
            at = moment = first(Build(**parts))
            rows, calls, letters = [], all_calls(parts), []
            made = [[] for _ in parts["tasks"]]
            for _ in range(rng.randint(0, 30)):
                letter = rng.choice(letters_of(at))
                letters += [letter] if len(letters_of(at)) == 3 else []
                task, call = at.due(letter), None
                if task is not None:
                    call = rng.choice(calls)
                    made[task].append((len(rows), ("call", call)))
                rows.append((letter, call, call))
                at = at.tick(letter, call)[1]
            made = [[step for tick, step in row if tick < len(rows) - 1] for row in made]
            if max(map(len, made)) > 12:
                with self.assertRaises(NoLong):
                    speakers(moment, rows, 1)
                continue
            met += 1
            programs = speakers(moment, rows, met % 2)
            self.assertEqual(programs, [row or IDLE for row in made])
            self.assertEqual(ran(moment, programs, letters, len(rows))[0], played(moment, [row[:2] for row in rows])[0])


if __name__ == "__main__":
    unittest.main()
