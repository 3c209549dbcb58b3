"""[3], [4], [5], [22], [24]: judges of lists of triples and of rows."""

import copy
import random
import unittest

from hushkernel.builds import Build
from hushkernel.errors import NoEyes, NoOnes, TooMany
from hushkernel.hushes import hush
from hushkernel.judges import closed_fault, tells_fault
from hushkernel.live import Live
from hushkernel.moments import first

from tests.helper import (all_calls, later, led, letters_of, odd_values, plain_closed, plain_tells, some, some_roles,
                          start, twin_parts)

PASS = ("pass",)
LAST = (None, None, None)

READER = dict(tasks=[(1, 0), (0, 2)], pages=[1], ports=[], locks=0, rights=[[("read", 0)], [("write", 0)]],
              plan=("slots", [(0, 2), (1, 1)]))
# Side 0 writes what side 1, a third, reads; side 2 sees nothing of it.
THIRD = dict(tasks=[(0, 0), (1, 0), (2, 0)], pages=[0], ports=[], locks=0, rights=[[("write", 0)], [("read", 0)], []],
             plan=("slots", [(0, 1), (1, 1), (2, 1)]))
# Side 1 hands on what it reads to side 2.
CHAIN = dict(THIRD, pages=[0, 0], rights=[[("write", 0)], [("read", 0), ("write", 1)], [("read", 1)]])
TINY = dict(plan=("slots", [(0, 1)]))


def hushed(changes, ones, eyes=None):
    told = hush(start(**changes), ones, eyes=eyes)
    assert told[0] == "hushed"
    return told[1]


class TestClosed(unittest.TestCase):
    def setUp(self):
        self.moment = start(**THIRD)
        self.triples = hushed(THIRD, [0], [2])

    def fault(self, thing):
        return closed_fault(self.moment, [0], thing, eyes=[2])

    def test_what_hush_returns(self):
        self.assertIsNone(self.fault(self.triples))
        self.assertIsNone(self.fault(self.triples[::-1]))
        self.assertIsNone(self.fault(self.triples + self.triples[:7]))
        self.assertIsNone(self.fault([self.triples[3], *self.triples]))
        self.assertIsNone(closed_fault(start(**READER), [1], hushed(READER, [1])))

    def test_without_the_first(self):
        self.assertEqual(self.fault([]), ("first",))
        self.assertEqual(self.fault(self.triples[1:]), ("first",))
        moment = led(start(**TINY), PASS)[1]
        unveiled = [(moment, moment, ())]
        self.assertEqual(closed_fault(moment, [0], unveiled), ("first",))
        self.assertEqual(closed_fault(moment, [1], unveiled), ("open", 0, None, ("sleep", 1), ("sleep", 1)))

    def test_one_left_out(self):
        for left in (1, 2, 5, len(self.triples) - 1):
            fault = self.fault(self.triples[:left] + self.triples[left + 1:])
            self.assertEqual(fault[0], "open")
            self.assertLess(fault[1], left)
            self.assertEqual(fault, plain_closed(self.moment, [0], self.triples[:left] + self.triples[left + 1:], [2]))

    def test_the_first_triple_alone(self):
        self.assertEqual(self.fault(self.triples[:1]), ("open", 0, None, ("write", 0, 0), PASS))

    def test_the_first_calls_behind_which_one_is_not_in_the_list(self):
        """Only what the ones write is missing."""
        kept = [triple for triple in self.triples if triple[0].pages() == triple[1].pages()]
        self.assertEqual(self.fault(kept), ("open", 0, None, ("write", 0, 1), PASS))

    def test_harmed(self):
        """With the reader as eyes the list is harmed, at the first moment at which it sees unlike answers."""
        moment = start(**READER)
        loud = led(moment, ("read", 0), ("read", 0), ("write", 0, 0), ("read", 0))[1].veiled([1])
        quiet = led(moment, ("read", 0), ("read", 0), PASS, ("read", 0))[1].veiled([1])
        self.assertEqual(closed_fault(moment, [0], [(moment, moment, ()), (loud, quiet, ())]),
                         ("open", 0, None, ("read", 0), ("read", 0)))
        self.assertEqual(closed_fault(moment, [0], [(loud, quiet, ()), (moment, moment, ())]), ("harmed", 0, None))

    def test_harmed_by_a_letter(self):
        changes = dict(tasks=[(0, 0), (1, 1)], ports=[1], rights=[[("take", 0)], [("take", 0)]], outside=(0, 2), locks=0)
        moment = start(**changes)
        loud = led(moment, ("wait", 0), ("wait", 0))[1]
        quiet = led(moment, ("wait", 0), PASS)[1]
        fault = closed_fault(moment, [0], [(loud, quiet.veiled([0]), ()), (moment, moment, ())])
        self.assertEqual(fault, ("harmed", 0, 0))

    def test_harmed_goes_ahead_of_open_in_one_triple_alone(self):
        moment = start(**READER)
        loud = led(moment, ("read", 0), ("read", 0), ("write", 0, 0), ("read", 0))[1].veiled([1])
        quiet = led(moment, ("read", 0), ("read", 0), PASS, ("read", 0))[1].veiled([1])
        triples = [(moment, moment, ()), (loud, quiet, ())]
        self.assertEqual(closed_fault(moment, [0], triples)[:2], ("open", 0))
        self.assertEqual(closed_fault(moment, [0], triples[::-1]), ("harmed", 0, None))

    def test_moments_that_are_not_veiled(self):
        """Nothing is wrong with them beside the others; what is behind them is veiled."""
        loud = led(start(**THIRD), PASS)[1]
        self.assertEqual(loud.answer(0), "yes")
        self.assertIsNone(self.fault([*self.triples, (loud, loud, ())]))
        self.assertIsNone(self.fault([(loud, loud.veiled([0]), ()), *self.triples]))
        veiled = loud.veiled([0])
        without = [triple for triple in self.triples if not (triple[0] == veiled and triple[1] == veiled)]
        self.assertEqual(len(without), len(self.triples) - 1)
        self.assertEqual(self.fault([*without, (loud, loud, ())])[0], "open")

    def test_moments_of_an_equal_build(self):
        other = hushed(copy.deepcopy(THIRD), [0], [2])
        self.assertIsNone(self.fault(other))
        self.assertIsNone(self.fault(self.triples[:9] + other[9:]))

    def test_moments_of_another_build(self):
        for changes in (dict(costs=(2, 0, 0)), dict(pad=True), dict(tasks=[(0, 1), (1, 0), (2, 0)]), dict(locks=1)):
            other = start(**{**THIRD, **changes})
            for triple in [(other, other, ()), (other, self.moment, ()), (self.moment, other, ())]:
                self.assertEqual(self.fault([*self.triples, triple]), ("form",))

    def test_moments_of_another_phase(self):
        moment = led(self.moment, PASS)[1].veiled([0])
        self.assertEqual(self.fault([*self.triples, (moment, self.moment, ())]), ("form",))
        self.assertEqual(self.fault([*self.triples, (self.moment, moment, ())]), ("form",))
        self.assertIsNone(self.fault([*self.triples, (moment, moment, ())]))

    def test_tasks_that_know(self):
        moment = self.moment
        for knowing in [(0,), (2,), (1, 1), (1, 2), (0, 1), (3,), (-1,), (True,), (None,), ("1",), [1], [], 1, None, {},
                        ((1,),), {1: 1}, "", (moment,)]:
            with self.subTest(f"{knowing!r}"):
                self.assertEqual(self.fault([*self.triples, (moment, moment, knowing)]), ("form",))
        self.assertEqual(self.fault([*self.triples, (moment, moment, (1,))])[:2], ("open", len(self.triples)))

    def test_several_thirds(self):
        changes = dict(tasks=[(3, 0), (0, 0), (1, 0), (2, 0)], plan=("slots", [(0, 1), (1, 1), (2, 1), (3, 1)]))
        moment = start(**changes)
        for knowing in [(), (0,), (3,), (0, 3)]:
            fault = closed_fault(moment, [0], [(moment, moment, ()), (moment, moment, knowing)], eyes=[1])
            self.assertEqual(fault[0], "open")
        for knowing in [(3, 0), (0, 0), (0, 3, 3), (1,), (2,), (0, 2)]:
            fault = closed_fault(moment, [0], [(moment, moment, ()), (moment, moment, knowing)], eyes=[1])
            self.assertEqual(fault, ("form",))
        self.assertEqual(closed_fault(moment, [0], [(moment, moment, (3,))], eyes=[1, 2, 3]), ("form",))

    def test_forms(self):
        moment = self.moment
        for item in [(moment, moment), (moment, moment, (), ()), [moment, moment, ()], (moment, None, ()), (None, moment, ()),
                     (moment.build(), moment, ()), (moment, moment.shape(), ()), (Live(moment.build()), moment, ()), moment]:
            self.assertEqual(self.fault([*self.triples, item]), ("form",))
        self.assertEqual(self.fault(tuple(self.triples)), ("form",))
        self.assertEqual(self.fault({at: triple for at, triple in enumerate(self.triples)}), ("form",))

    def test_things_of_any_kind(self):
        for thing in odd_values():
            with self.subTest(f"{thing!r}"):
                self.assertEqual(self.fault(thing), ("first",) if thing == [] else ("form",))
                self.assertEqual(self.fault([*self.triples, thing]), ("form",))
                triple = (self.moment, self.moment, thing)
                self.assertEqual(self.fault([triple, *self.triples]),
                                 plain_closed(self.moment, [0], [triple, *self.triples], [2]))

    def test_form_goes_ahead_of_first(self):
        self.assertEqual(self.fault([None]), ("form",))
        self.assertEqual(self.fault([self.triples[1], (self.moment, self.moment, (0,))]), ("form",))

    def test_lists_that_are_changed_in_a_few_places(self):
        rng = random.Random(31)
        met = {"form": 0, "first": 0, "open": 0, "harmed": 0, None: 0}
        for _ in range(260):
            build = Build(**twin_parts(rng))
            ones, eyes = some_roles(rng, build)
            moment = later(rng, first(build), rng.choice([0, 0, 4]))
            try:
                told = hush(moment, ones, eyes=eyes, most=70)
            except TooMany:
                continue
            triples = told[1] if told[0] == "hushed" else [(moment.veiled(tasks_on(build, ones)),) * 2 + ((),)]
            for thing in changed_triples(rng, triples, moment):
                expected = plain_closed(moment, ones, thing, eyes)
                self.assertEqual(closed_fault(moment, ones, thing, eyes=eyes), expected)
                met[None if expected is None else expected[0]] += 1
        self.assertGreater(min(met.values()), 9, met)

    def test_nothing_that_is_handed_in_is_changed(self):
        triples = list(self.triples)
        ones, eyes = [0], [2]
        closed_fault(self.moment, ones, triples, eyes=eyes)
        self.assertEqual((ones, eyes, len(triples)), ([0], [2], len(self.triples)))
        self.assertTrue(all(one == other for one, other in zip(triples, self.triples)))

    def test_thousands_of_triples(self):
        changes = dict(tasks=[(0, 0), (1, 0)], pages=[0, 0, 0], ports=[2], locks=1, outside=(0, 4),
                       rights=[[("lock", 0), ("take", 0), ("write", 0)], []], plan=("slots", [(0, 1), (1, 1)]))
        triples = hush(start(**changes), [0], most=5000)[1]
        self.assertGreater(len(triples), 3000)
        self.assertIsNone(closed_fault(start(**changes), [0], triples))
        self.assertEqual(closed_fault(start(**changes), [0], triples[:-1])[0], "open")


def tasks_on(build, sides):
    return [task for task, (side, _) in enumerate(build.tasks()) if side in sides]


def changed_triples(rng, triples, moment):
    """The list itself, and some that are like it."""
    yield triples
    at = rng.randrange(len(triples))
    yield triples[:at] + triples[at + 1:]
    yield rng.sample(triples, len(triples))
    other = rng.choice(triples)
    loud, quiet, knowing = triples[at]
    yield [*triples, (loud, other[1], knowing)]
    yield [(loud, later(rng, quiet, rng.choice([0, 1, loud.build().rules.period])), knowing), *triples]
    # Moments of the same phase that have gone other ways.
    period = loud.build().rules.period
    for ticks in (0, 1, 5):
        one, two = later(rng, moment, ticks), later(rng, moment, ticks + period * rng.randint(0, 3))
        yield [(one, two, knowing), *triples]
        yield [*triples[:at], (one, two, rng.choice([(), (0,), (1,), (2,), (0, 2)])), *triples[at:]]


def reader_rows():
    read = (None, ("read", 0), ("read", 0))
    return [read, read, (None, ("write", 0, 0), PASS), read, LAST]


def chain_rows():
    """Side 1 is told something by side 0 in tick 4, and tells side 2 in the very same one."""
    same = (None, PASS, PASS)
    return [
        (None, ("write", 0, 1), PASS), (None, ("read", 0), ("read", 0)), same, same, (None, ("write", 1, 1), PASS),
        (None, ("read", 1), ("read", 1)), same, same, LAST,
    ]


def put_in(rows, at, row):
    return [*rows[:at], row, *rows[at + 1:]]


class TestTells(unittest.TestCase):
    def fault(self, rows, **words):
        return tells_fault(start(**READER), [0], rows, **words)

    def chain(self, rows, eyes=(2,)):
        return tells_fault(start(**CHAIN), [0], rows, eyes=list(eyes))

    def test_what_hush_returns(self):
        self.assertIsNone(self.fault(hush(start(**READER), [0])[2]))
        self.assertIsNone(self.fault(reader_rows()))
        self.assertIsNone(self.fault(reader_rows(), eyes=[1]))
        self.assertIsNone(self.chain(hush(start(**CHAIN), [0], eyes=[2])[2]))
        self.assertIsNone(self.chain(chain_rows()))

    def test_cut_off_and_lengthened(self):
        rows = reader_rows()
        for many in range(1, 5):
            self.assertEqual(self.fault(rows[:many]), ("same",))
        self.assertEqual(self.fault([]), ("form",))
        self.assertEqual(self.fault([*rows, LAST]), ("parted", 4))
        self.assertEqual(self.fault([*rows, (0, None, None)]), ("parted", 4))

    def test_a_round_more(self):
        """Not only the shortest rows will do, and any calls of the build."""
        read, same = (None, ("read", 0), ("read", 0)), (None, PASS, PASS)
        odd = (None, ("write", 0, 1), ("write", 0, 1))
        rows = [same, odd, (None, ("give",), PASS), read, read, (None, ("write", 0, 0), PASS), read, LAST]
        self.assertIsNone(self.fault(rows))

    def test_the_calls_of_the_last_index_are_not_looked_at(self):
        for value in odd_values():
            self.assertIsNone(self.fault([*reader_rows()[:4], (None, value, value)]))
            self.assertEqual(self.fault([(None, value, PASS)]), ("same",))

    def test_letters_that_may_not_come(self):
        rows = reader_rows()
        for at in range(5):
            for letter in [0, 1, True, "0", (), *odd_values()]:
                if letter is not None:
                    self.assertEqual(self.fault(put_in(rows, at, (letter, *rows[at][1:]))), ("act", at))

    def test_letters_that_may_come_now_and_then(self):
        changes = dict(READER, ports=[1], outside=(0, 2))
        rows = [(letter, *row[1:]) for letter, row in zip((0, None, 1, None, 0), reader_rows())]
        self.assertIsNone(tells_fault(start(**changes), [0], rows))
        for at in range(5):
            changed = tells_fault(start(**changes), [0], put_in(rows, at, (1, *rows[at][1:])))
            self.assertEqual(changed, None if at % 2 == 0 else ("act", at))
            for letter in (True, False, 2, -1, "0", [0]):
                changed = tells_fault(start(**changes), [0], put_in(rows, at, (letter, *rows[at][1:])))
                self.assertEqual(changed, ("act", at))

    def test_calls_that_do_not_fit(self):
        rows = reader_rows()
        for call in [None, ("read", 1), ("read", True), ["read", 0], ("read",), ("seek", 0), ("sleep", 3), *odd_values()]:
            if call not in (PASS, ("read", 0)):
                self.assertEqual(self.fault(put_in(rows, 1, (None, call, call))), ("act", 1))
                self.assertEqual(self.fault(put_in(rows, 2, (None, call, PASS))), ("act", 2))
                self.assertEqual(self.fault(put_in(rows, 2, (None, PASS, call))), ("act", 2))

    def test_no_turn(self):
        changes = dict(READER, plan=("slots", [(0, 2), (1, 2)]), costs=(2, 0, 0))
        rows = [(None, ("read", 0), ("read", 0)), LAST, (None, ("write", 0, 0), PASS), LAST,
                (None, ("read", 0), ("read", 0)), LAST, (None, PASS, PASS), LAST, LAST]
        moment = start(**changes)
        self.assertIsNone(tells_fault(moment, [0], rows))
        for at in (1, 3, 5):
            for calls in ((PASS, PASS), (None, PASS), (PASS, None)):
                self.assertEqual(tells_fault(moment, [0], put_in(rows, at, (None, *calls))), ("act", at))

    def test_the_ones_pass_in_the_quiet_kernel(self):
        rows = reader_rows()
        for call in [("write", 0, 1), ("sleep", 1), ("read", 0), ("give",)]:
            self.assertEqual(self.fault(put_in(rows, 2, (None, ("write", 0, 0), call))), ("act", 2))
            self.assertEqual(self.fault(put_in(rows, 2, (None, call, call))), ("act", 2))

    def test_unlike_calls_of_the_eyes(self):
        rows = reader_rows()
        for at in (0, 1, 3):
            self.assertEqual(self.fault(put_in(rows, at, (None, ("read", 0), PASS))), ("act", at))
            self.assertEqual(self.fault(put_in(rows, at, (None, PASS, ("sleep", 1)))), ("act", at))

    def test_unlike_calls_of_a_third(self):
        """In tick 1 it does not know; in tick 4 it does, in this very tick; but not as one of the eyes."""
        rows = chain_rows()
        self.assertEqual(self.chain(put_in(rows, 1, (None, ("read", 0), PASS))), ("act", 1))
        self.assertEqual(self.chain(rows, [1, 2]), ("parted", 4))
        self.assertEqual(self.chain(rows[:5], [1]), None)
        self.assertEqual(self.chain(put_in(rows, 0, (None, PASS, PASS))), ("act", 4))
        self.assertEqual(self.chain(put_in(rows, 1, (None, PASS, PASS))), ("act", 4))

    def test_a_third_goes_on_knowing(self):
        same = (None, PASS, PASS)
        rows = [*chain_rows()[:4], same, same, (None, PASS, PASS), (None, ("write", 1, 1), PASS),
                (None, ("read", 1), ("read", 1)), same, same, LAST]
        self.assertIsNone(self.chain(rows))

    def test_a_third_with_a_turn_in_one_kernel_alone(self):
        moment = start(tasks=[(0, 1), (1, 0), (2, 2)], pages=[], locks=0, rights=[[], [("send", 0)], [("take", 0)]])
        rows = [(None, ("wait", 0), ("wait", 0)), (None, ("sleep", 2), PASS), (None, ("send", 0, 0), PASS), LAST]
        self.assertIsNone(tells_fault(moment, [0], rows, eyes=[2]))
        self.assertEqual(tells_fault(moment, [0], put_in(rows, 2, (None, ("send", 0, 0), ("sleep", 1))), eyes=[2]), ("act", 2))
        self.assertEqual(tells_fault(moment, [0], rows[:3]), None)
        self.assertEqual(tells_fault(moment, [0], rows), ("parted", 2))

    def test_parted_goes_ahead_of_the_calls_but_behind_the_letter(self):
        rows = reader_rows()
        for calls in [(None, None), (PASS, PASS), (("read", 0), ("sleep", 1)), (7, [])]:
            self.assertEqual(self.fault([*rows[:4], (None, *calls), LAST]), ("parted", 4))
            self.assertEqual(self.fault([*rows[:4], (0, *calls), LAST]), ("act", 4))

    def test_the_first_index(self):
        rows = reader_rows()
        self.assertEqual(self.fault(put_in(put_in(rows, 3, (None, None, None)), 1, (1, PASS, PASS))), ("act", 1))

    def test_answers_at_first_are_kept(self):
        """The moment is not veiled: a third that sees the same, an answer of before, does not know."""
        moment = led(start(**CHAIN), PASS, ("read", 0), PASS, PASS)[1]
        self.assertEqual(moment.answer(1), "0")
        self.assertEqual(tells_fault(moment, [0], [(None, PASS, ("read", 0)), LAST], eyes=[2]), ("act", 0))

    def test_forms(self):
        for thing in [(), tuple(reader_rows()), [[None, None, None]], [(None, None)], [(None, None, None, None)],
                      [*reader_rows(), None], [*reader_rows(), ()], {0: LAST}, None]:
            self.assertEqual(self.fault(thing), ("form",))
        for thing in odd_values():
            with self.subTest(f"{thing!r}"):
                self.assertEqual(self.fault(thing), ("form",))
                three = isinstance(thing, tuple) and len(thing) == 3
                self.assertEqual(self.fault([*reader_rows(), thing]), ("parted", 4) if three else ("form",))

    def test_rows_that_are_changed_in_a_few_places(self):
        rng = random.Random(32)
        met = {"form": 0, "act": 0, "parted": 0, "same": 0, None: 0}
        for _ in range(300):
            parts = twin_parts(rng)
            build = Build(**parts)
            ones, eyes = some_roles(rng, build)
            moment = later(rng, first(build), rng.choice([0, 0, 4]))
            try:
                told = hush(moment, ones, eyes=eyes, most=120)
            except TooMany:
                continue
            calls = all_calls(parts)
            rows = told[2] if told[0] == "tells" else some_rows(rng, moment, ones, eyes)
            for thing in changed_rows(rng, rows, calls):
                expected = plain_tells(moment, ones, thing, eyes, calls)
                self.assertEqual(tells_fault(moment, ones, thing, eyes=eyes), expected)
                met[None if expected is None else expected[0]] += 1
        self.assertGreater(min(met.values()), 40, met)

    def test_hundred_rows(self):
        rows = [(None, PASS, PASS)] * 99 + [LAST]
        self.assertEqual(self.fault(rows), ("same",))
        self.assertEqual(self.fault([*rows[:48], *reader_rows()]), None)

    def test_nothing_that_is_handed_in_is_changed(self):
        rows, ones, eyes = chain_rows(), [0], [2]
        tells_fault(start(**CHAIN), ones, rows, eyes=eyes)
        self.assertEqual((rows, ones, eyes), (chain_rows(), [0], [2]))


def some_rows(rng, moment, ones, eyes):
    """Rows that mostly fit: what the ones do is drawn, all others pass, or do the same in both."""
    loud, quiet, rows = moment, moment, []
    tasks = tasks_on(moment.build(), ones)
    for _ in range(rng.randint(1, 12)):
        letter = rng.choice(letters_of(loud))
        mine, yours = loud.due(letter), quiet.due(letter)
        one = None if mine is None else rng.choice(loud.calls(letter))
        other = None if yours is None else PASS if yours in tasks or mine != yours else one
        rows.append((letter, one, other))
        loud, quiet = loud.tick(letter, one)[1], quiet.tick(letter, other)[1]
    return rows


def changed_rows(rng, rows, calls):
    """The rows themselves, and some that are like them."""
    yield rows
    yield rows[:-1]
    yield [*rows, rng.choice(rows)]
    yield put_in(rows, 0, rows[0][:2])
    for _ in range(3):
        at = rng.randrange(len(rows))
        letter, one, other = rows[at]
        yield put_in(rows, at, (rng.choice([None, 0, 1, True]), one, other))
        yield put_in(rows, at, (letter, rng.choice([*calls, None]), other))
        yield put_in(rows, at, (letter, one, rng.choice([*calls, None])))
        call = rng.choice(calls)
        yield put_in(rows, at, (letter, call, call))


class TestErrors(unittest.TestCase):
    def test_no_ones_then_no_eyes(self):
        moment = start(tasks=[(0, 0), (1, 0), (3, 0)])
        good = [[0], [1], [3], [0, 1], [0, 3], [1, 3]]
        for judge in (closed_fault, tells_fault):
            for value in [*odd_values(), [0, 1, 3], [2], [True], [1, 0], (0,), [0, 0]]:
                if repr(value) not in [repr(ones) for ones in good]:
                    with self.subTest(f"{value!r}"), self.assertRaises(NoOnes):
                        judge(moment, value, None, eyes=value)
                if value is not None and repr(value) not in ("[0]", "[3]", "[0, 3]"):
                    with self.subTest(f"{value!r}"), self.assertRaises(NoEyes):
                        judge(moment, [1], None, eyes=value)
            for eyes in (None, [0], [3], [0, 3]):
                self.assertEqual(judge(moment, [1], None, eyes=eyes), ("form",))

    def test_eyes_play_their_part(self):
        moment = start(**THIRD)
        triples = hushed(THIRD, [0], [2])
        self.assertEqual(closed_fault(moment, [0], triples), ("form",))
        without = [triple for triple in triples if triple[2] == ()]
        self.assertEqual(closed_fault(moment, [0], without, eyes=[2])[0], "open")
        self.assertEqual(closed_fault(moment, [0], without)[0], "harmed")


if __name__ == "__main__":
    unittest.main()
