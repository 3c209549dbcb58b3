"""[3], [4], [5], [30]: how many unlike things the ones can make the others see."""

import copy
import itertools
import random
import unittest

from hushkernel.builds import Build
from hushkernel.errors import NoLetters, NoMost, NoOnes, NoProgram, NoTicks, TooMany
from hushkernel.hushes import hush
from hushkernel.moments import first
from hushkernel.programs import ran
from hushkernel.sights import sights

from tests.helper import (PlainProgram, all_calls, has_own_lists, later, letters_of, odd_values, some_letters,
                          some_programs, some_roles, spoil, start, twin_parts)

PASS = ("pass",)
IDLE = [("call", PASS)]
READS = [("call", ("read", 0)), ("go", 0)]
PASSES = ("call", PASS)
# Task 0 writes what task 1 reads; turns by turns.
READER = dict(tasks=[(0, 0), (1, 0)], pages=[0], ports=[], locks=0, rights=[[("write", 0)], [("read", 0)]],
              plan=("slots", [(0, 1), (1, 1)]))


def telling_parts(rng):
    """The parts of a build, and ones who can mostly tell: they write what the others go on reading; and programs."""
    parts = twin_parts(rng)
    ones, _ = some_roles(rng, Build(**parts))
    programs = some_programs(rng, parts)
    if not parts["pages"]:
        return parts, ones, programs
    for task, (side, _) in enumerate(parts["tasks"]):
        right = ("write", 0) if side in ones else ("read", 0)
        parts["rights"][task] = sorted({*parts["rights"][task], right})
        if side not in ones and rng.random() < 0.7:
            programs[task] = rng.choice([READS, [("if", "1", 2), *READS, PASSES]])
    return parts, ones, programs


def tasks_of(moment, ones):
    return [task for task, (side, _) in enumerate(moment.build().tasks()) if side in ones]


def plain_sights(moment, ones, programs, letters, ticks, most=1500):
    """As [30] tells it: for each number of ticks how many lists there are, and how many tuples of one and a moment.

    It ends as soon as there are more than `most` tuples.
    """
    mine, rest = tasks_of(moment, ones), list(letters)
    begun = moment.veiled(mine)
    readers = [None if task in mine else PlainProgram(program) for task, program in enumerate(programs)]
    level = {((), begun.shape()): (begun, readers)}
    lists, tuples = [1], [1]
    for _ in range(ticks):
        letter = rest.pop(0) if len(letters_of(moment)) == 3 and rest else None
        moment = moment.tick(letter, None if moment.due(letter) is None else PASS)[1]
        after = {}
        for (told, _), (at, readers) in level.items():
            task = at.due(letter)
            calls = at.calls(letter) or [None]
            sight = None
            if task is not None and task not in mine:
                sight = at.tick(letter, PASS)[0]
                readers = copy.deepcopy(readers)
                calls = [readers[task].turn(sight[1])]
            for call in calls:
                behind = at.tick(letter, call)[1].veiled(mine)
                after[(*told, sight), behind.shape()] = (behind, readers)
        level = after
        lists.append(len({told for told, _ in level}))
        tuples.append(len(level))
        if tuples[-1] > most:
            return lists, tuples
    return lists, tuples


class TestAgainstPlainCount(unittest.TestCase):
    def test_many_builds(self):
        rng = random.Random(61)
        met = {"many": 0, "one": 0, "more": 0, "letters": 0}
        for _ in range(260):
            parts, ones, programs = telling_parts(rng)
            if parts["ports"] and rng.random() < 0.5:
                parts["outside"] = (0, rng.randint(1, 3))
            moment = later(rng, first(Build(**parts)), rng.choice([0, 0, 4]))
            letters, ticks = some_letters(rng, rng.choice([0, 2, 20])), rng.randint(0, 24)
            lists, tuples = plain_sights(moment, ones, programs, letters, ticks, 400)
            most = max(tuples)
            if most > 400:
                met["many"] += 1
                with self.assertRaises(TooMany):
                    sights(moment, ones, programs, letters, ticks, most=400)
                continue
            self.assertEqual(sights(moment, ones, programs, letters, ticks, most=most), lists)
            met["one" if lists[-1] == 1 else "more"] += 1
            met["letters"] += bool(letters) and parts["outside"] is not None
            if most > 1:
                with self.assertRaises(TooMany) as caught:
                    sights(moment, ones, programs, letters, ticks, most=most - 1)
                self.assertEqual(caught.exception.most, most - 1)
        self.assertGreater(min(met.values()), 8, met)

    def test_by_all_calls_and_all_answers(self):
        """Any calls of the build, no veils: not another list can come."""
        rng = random.Random(62)
        met = 0
        while met < 40:
            parts, ones, programs = telling_parts(rng)
            moment, letters = first(Build(**parts)), some_letters(rng, 4)
            found = self.lists(moment, tasks_of(moment, ones), all_calls(parts), programs, letters, 6)
            if found is not None:
                met += found[-1] > 1
                self.assertEqual(sights(moment, ones, programs, letters, 6, most=5000), found)

    def lists(self, moment, mine, calls, programs, letters, ticks):
        level, rest, found = {((), moment.shape()): moment}, list(letters), [1]
        for _ in range(ticks):
            letter = rest.pop(0) if len(letters_of(next(iter(level.values())))) == 3 and rest else None
            after = {}
            for (told, _), at in level.items():
                task = at.due(letter)
                sight = None if task is None or task in mine else at.tick(letter, PASS)[0]
                made = [None] if task is None else calls
                if sight is not None:
                    reader = PlainProgram(programs[task])
                    made = [[reader.turn(old[1]) for old in (*told, sight) if old is not None and old[0] == task][-1]]
                for call in made:
                    behind = at.tick(letter, call)[1]
                    after[(*told, sight), behind.shape()] = behind
            if len(after) > 600:
                return None
            level = after
            found.append(len({told for told, _ in level}))
        return found


class TestByHand(unittest.TestCase):
    def count(self, ticks, ones=(0,), programs=(None, READS), letters=(), most=500, **changes):
        return sights(start(**{**READER, **changes}), list(ones), list(programs), list(letters), ticks, most=most)

    def test_a_page(self):
        """The answer that is seen at tick 3 was read at tick 1, behind what was written at tick 0."""
        self.assertEqual(self.count(8), [1, 1, 1, 1, 2, 2, 4, 4, 8])

    def test_the_first_item(self):
        self.assertEqual(self.count(0), [1])
        self.assertEqual(self.count(0, most=1), [1])

    def test_hushed(self):
        self.assertEqual(self.count(9, ones=[1], programs=[[("call", ("write", 0, 1)), ("go", 0)], None]), [1] * 10)
        self.assertEqual(self.count(100, rights=[[], [("read", 0)]]), [1] * 101)

    def test_others_that_do_not_look(self):
        self.assertEqual(self.count(9, programs=[None, IDLE]), [1] * 10)

    def test_one_that_looks_once(self):
        """Its program goes on to the end behind the answer; what it branches on is seen by nobody."""
        program = [("call", ("read", 0)), ("if", "1", 3), ("go", 4), ("call", ("read", 0))]
        self.assertEqual(self.count(4, programs=[None, program]), [1, 1, 1, 1, 2])
        # Behind "1" it reads once more, so that the page may be told twice; behind "0" it passes.
        self.assertEqual(self.count(8, programs=[None, program]), [1, 1, 1, 1, 2, 2, 3, 3, 3])

    def test_time(self):
        """Task 1 has its turns while task 0 sleeps for two ticks: lists of steps of one tick, and of two."""
        found = self.count(4, plan=("levels", 1), tasks=[(0, 1), (1, 0)], rights=[[], []], programs=[None, IDLE])
        self.assertEqual(found, [1, 1, 2, 3, 5])

    def test_letters(self):
        """The ones take the letters, or leave them."""
        words = dict(ports=[2], pages=[], rights=[[("take", 0)], [("take", 0)]], outside=(0, 4),
                     programs=[None, [("call", ("take", 0)), ("go", 0)]])
        self.assertEqual(self.count(4, letters=[1], **words), [1, 1, 1, 1, 2])
        self.assertEqual(self.count(4, letters=[None, 1], **words), [1, 1, 1, 1, 1])
        self.assertEqual(self.count(8, letters=[None, 1], **words), [1, 1, 1, 1, 1, 1, 1, 1, 2])
        self.assertEqual(self.count(8, letters=[], **words), [1] * 9)
        self.assertEqual(self.count(4, letters=[1], **{**words, "outside": None}), [1] * 5)

    def test_answers_of_the_ones_play_no_part(self):
        """The moments are veiled: "yes" and "empty" are one tuple, not two."""
        words = dict(pages=[], ports=[1], rights=[[("take", 0)], []], programs=[None, IDLE], plan=("slots", [(0, 1)]))
        moment = start(**{**READER, **{name: part for name, part in words.items() if name != "programs"}})
        shapes = {moment.tick(None, call)[1].veiled([0]).shape() for call in moment.calls()}
        self.assertEqual((len(moment.calls()), len(shapes)), (5, 4))
        self.assertEqual(self.count(1, most=4, **words), [1, 1])
        with self.assertRaises(TooMany):
            self.count(1, most=3, **words)

    def test_items_of_the_ones_are_not_looked_at(self):
        for value in [*odd_values(), [], [None] * 13, [("go", 7)], READS]:
            self.assertEqual(self.count(4, programs=[value, READS]), [1, 1, 1, 1, 2])
        moment = start(tasks=[(0, 0), (2, 0), (0, 0), (1, 0)], plan=("slots", [(0, 1), (1, 1)]))
        self.assertEqual(sights(moment, [0], [7, IDLE, None, IDLE], [], 2), [1, 1, 1])
        self.assertEqual(sights(moment, [0, 2], [7, 7, 7, IDLE], [], 2), [1, 1, 1])


class TestBounds(unittest.TestCase):
    def test_too_many_for_the_first_number_of_ticks(self):
        """Behind one tick there are four moments: written or not, asleep for a tick or for two."""
        words = dict(READER, rights=[[("write", 0)], []])
        moment = start(**words)
        self.assertEqual(sights(moment, [0], [None, IDLE], [], 1, most=4), [1, 1])
        for most in (1, 2, 3):
            with self.assertRaises(TooMany) as caught:
                sights(moment, [0], [None, IDLE], [], 1, most=most)
            self.assertEqual(caught.exception.most, most)
        self.assertEqual(sights(moment, [0], [None, IDLE], [], 0, most=1), [1])

    def test_too_many_for_the_last_number_of_ticks(self):
        moment = start(**READER)
        _, tuples = plain_sights(moment, [0], [None, READS], [], 9)
        self.assertEqual(max(tuples), tuples[9])
        self.assertLess(max(tuples[:9]), tuples[9])
        self.assertEqual(len(sights(moment, [0], [None, READS], [], 9, most=tuples[9])), 10)
        self.assertEqual(len(sights(moment, [0], [None, READS], [], 8, most=tuples[9] - 1)), 9)
        with self.assertRaises(TooMany) as caught:
            sights(moment, [0], [None, READS], [], 9, most=tuples[9] - 1)
        self.assertEqual(caught.exception.most, tuples[9] - 1)

    def test_more_in_between(self):
        """Fewer tuples at the last number of ticks than ahead of it are too many all the same."""
        moment = start(**{**READER, "plan": ("slots", [(0, 1), (1, 2)]), "rights": [[], []]})
        _, tuples = plain_sights(moment, [0], [None, IDLE], [], 3)
        self.assertLess(tuples[3], max(tuples))
        with self.assertRaises(TooMany):
            sights(moment, [0], [None, IDLE], [], 3, most=max(tuples) - 1)
        self.assertEqual(sights(moment, [0], [None, IDLE], [], 3, most=max(tuples)), [1] * 4)

    def test_five_hundred_without_words(self):
        moment = start(**READER)
        lists, tuples = plain_sights(moment, [0], [None, READS], [], 18)
        ticks = [many > 500 for many in tuples].index(True)
        self.assertEqual(sights(moment, [0], [None, READS], [], ticks - 1), lists[:ticks])
        with self.assertRaises(TooMany) as caught:
            sights(moment, [0], [None, READS], [], ticks)
        self.assertEqual(caught.exception.most, 500)

    def test_five_thousand(self):
        moment = start(**{**READER, "pages": [0, 0, 0], "ports": [2], "locks": 1, "outside": (0, 4),
                          "rights": [[("lock", 0), ("take", 0), ("write", 0), ("write", 1)], [("read", 0)]]})
        program = [("call", ("read", 0)), *[("call", PASS)] * 11]
        found = sights(moment, [0], [None, program], [1, 0, None] * 33, 100, most=5000)
        self.assertEqual(len(found), 101)
        self.assertEqual(found[-1], 2)
        # The answer stays in all that is told later: 2 ** k lists of k answers, up to 5000 tuples.
        with self.assertRaises(TooMany):
            sights(moment, [0], [None, READS], [], 100, most=5000)


class TestErrors(unittest.TestCase):
    def setUp(self):
        self.moment = start(**READER)

    def test_no_ones(self):
        for ones in [*odd_values(), [0, 1], [2], [True], (0,), [0, 0]]:
            if repr(ones) not in ("[0]", "[1]"):
                with self.subTest(f"{ones!r}"), self.assertRaises(NoOnes):
                    sights(self.moment, ones, None, None, None, most=None)

    def fault(self, programs, ones=(0,)):
        with self.assertRaises(NoProgram) as caught:
            sights(self.moment, list(ones), programs, None, None, most=None)
        return caught.exception.task, caught.exception.index

    def test_no_program(self):
        for programs in [[], [IDLE], [IDLE] * 3, (IDLE, IDLE), *odd_values()]:
            if not (isinstance(programs, list) and len(programs) == 2):
                with self.subTest(f"{programs!r}"):
                    self.assertEqual(self.fault(programs), (-1, -1))
        for value in [[], [None] * 13, *odd_values()]:
            if not (isinstance(value, list) and 0 < len(value) < 13):
                self.assertEqual(self.fault([value, value]), (1, -1))
                self.assertEqual(self.fault([value, value], [1]), (0, -1))
            self.assertEqual(self.fault([value, [IDLE[0], value]]), (1, 1))
        self.assertEqual(self.fault([[], [("go", 2)]]), (1, 0))
        self.assertEqual(self.fault([[("go", 2)], []], [1]), (0, 0))

    def test_no_letters_then_no_ticks_then_no_most(self):
        programs = [None, IDLE]
        for letters in [[2], [True], (0,), None, [None] * 101, *odd_values()]:
            if not (isinstance(letters, list) and all(item is None or (type(item) is int and item in (0, 1)) for item in letters)
                    and len(letters) < 101):
                with self.subTest(f"{letters!r}"), self.assertRaises(NoLetters):
                    sights(self.moment, [0], programs, letters, None, most=None)
        for ticks in [-1, 101, True, None, "1", *odd_values()]:
            if not (type(ticks) is int and 0 <= ticks <= 100):
                with self.subTest(f"{ticks!r}"), self.assertRaises(NoTicks):
                    sights(self.moment, [0], programs, [], ticks, most=None)
        for most in [0, -1, 5001, True, None, "1", *odd_values()]:
            if not (type(most) is int and 1 <= most <= 5000):
                with self.subTest(f"{most!r}"), self.assertRaises(NoMost):
                    sights(self.moment, [0], programs, [], 100, most=most)
        self.assertEqual(sights(self.moment, [0], programs, [], 2, most=5000), [1, 1, 1])


class TestValues(unittest.TestCase):
    def test_lists_are_new(self):
        told = sights(start(**READER), [0], [None, READS], [], 4)
        self.assertTrue(has_own_lists(told))
        spoil(told)
        self.assertEqual(sights(start(**READER), [0], [None, READS], [], 4), [1, 1, 1, 1, 2])

    def test_nothing_that_is_handed_in_is_changed(self):
        ones, programs, letters = [0], [["x"], [("if", None, 1), *READS]], [0, None]
        moment = start(**READER)
        sights(moment, ones, programs, letters, 5)
        self.assertEqual((ones, programs, letters), ([0], [["x"], [("if", None, 1), *READS]], [0, None]))
        self.assertTrue(moment == start(**READER))


class TestFacts(unittest.TestCase):
    def test_no_item_is_less_than_the_one_before_it_and_all_are_one_if_hushed(self):
        rng = random.Random(63)
        hushed = 0
        while hushed < 40:
            parts = twin_parts(rng)
            build = Build(**parts)
            ones, _ = some_roles(rng, build)
            moment = later(rng, first(build), rng.choice([0, 0, 4]))
            programs, letters = some_programs(rng, parts), some_letters(rng, 20)
            try:
                found = sights(moment, ones, programs, letters, 20, most=2000)
                word = hush(moment, ones, most=600)[0]
            except TooMany:
                continue
            self.assertEqual(found, sorted(found))
            self.assertEqual((found[0], len(found)), (1, 21))
            if word == "hushed":
                hushed += 1
                self.assertEqual(found, [1] * 21)

    def test_what_programs_of_the_ones_make_the_others_see_is_counted(self):
        moment, met = start(**READER), set()
        for calls in itertools.product(moment.calls(), repeat=3):
            seen, _ = ran(moment, [[("call", call) for call in calls], READS], [], 8)
            met.add(tuple(sight if sight and sight[0] == 1 else None for sight in seen))
        self.assertEqual(len(met), sights(moment, [0], [None, READS], [], 8)[-1])


if __name__ == "__main__":
    unittest.main()
