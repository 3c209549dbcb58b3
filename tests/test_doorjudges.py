"""[3], [4], [5], [24], [36], [38]: judges of lists of triples and of rows beside doors."""

import copy
import random
import unittest

from hushkernel.builds import Build
from hushkernel.doorjudges import beside_fault, kept_fault
from hushkernel.doors import kept
from hushkernel.errors import NoDoors, NoEyes, NoOnes, TooMany
from hushkernel.hushes import hush
from hushkernel.judges import closed_fault
from hushkernel.live import Live
from hushkernel.moments import first

from tests.helper import all_calls, later, led, letters_of, odd_values, plain_closed, plain_tells, start
from tests.test_doors import CHAIN, LARGE, LAST, PAGE, PASS, PORT, POST, READER, chain_parts, door_parts, no_doors, some_doors
from tests.test_judges import changed_rows, changed_triples, put_in, tasks_on

READ = (None, ("read", 0), ("read", 0))
SAME = (None, PASS, PASS)


def write(one, other=None):
    """A row in which the page is written in both kernels, or in the first one alone."""
    return (None, ("write", 0, one), PASS if other is None else ("write", 0, other))


class TestKept(unittest.TestCase):
    def setUp(self):
        self.moment = start(**READER)
        self.triples = kept(self.moment, [0], [PAGE])[1]

    def fault(self, thing, doors=(PAGE,), **words):
        return kept_fault(self.moment, [0], list(doors), thing, **words)

    def test_what_kept_returns(self):
        self.assertIsNone(self.fault(self.triples))
        self.assertIsNone(self.fault(self.triples, eyes=[1]))
        self.assertIsNone(self.fault(self.triples[::-1]))
        self.assertIsNone(self.fault([*self.triples, *self.triples[:9]]))
        self.assertIsNone(self.fault([self.triples[3], self.triples[3], *self.triples]))

    def test_one_left_out(self):
        for left in range(1, len(self.triples)):
            rest = self.triples[:left] + self.triples[left + 1:]
            fault = self.fault(rest)
            self.assertEqual(fault[0], "open")
            self.assertLess(fault[1], left)
        self.assertEqual(self.fault(self.triples[1:]), ("first",))
        self.assertEqual(self.fault([]), ("first",))

    def test_the_first_triple_alone(self):
        """Both write the same: of the combinations that are not left out the first one."""
        fault = self.fault(self.triples[:1])
        self.assertEqual(fault, ("open", 0, None, ("write", 0, 0), ("write", 0, 0)))
        # Without the page as a door, any write stands beside any call.
        self.moment = start(**{**READER, "ports": [1]})
        self.assertEqual(self.fault([(self.moment, self.moment, ())], [PORT]), ("open", 0, None, ("write", 0, 0), ("write", 0, 0)))

    def test_combinations_that_are_left_out_open_nothing(self):
        """No triple of the list has another page in the one kernel than in the other, though it could be written."""
        self.assertTrue(all(one.pages() == other.pages() for one, other, _ in self.triples))
        self.moment = start(**{**READER, "ports": [1]})
        triples = kept(self.moment, [0], [PAGE])[1]
        self.assertIsNone(self.fault(triples))
        # Beside another door the same list is open, by a write with which nothing is spoken.
        fault = self.fault(triples, [PORT])
        self.assertEqual(fault, ("open", 0, None, ("write", 0, 0), ("write", 0, 1)))

    def test_a_list_of_hush_is_mostly_open(self):
        """The ones do not only pass in the second kernel."""
        moment = start(**{**READER, "rights": [[], []]})
        triples = hush(moment, [0])[1]
        self.assertIsNone(closed_fault(moment, [0], triples))
        self.assertEqual(kept_fault(moment, [0], [PAGE], triples)[0], "open")

    def test_harmed(self):
        loud = led(self.moment, ("write", 0, 1), ("read", 0), PASS)[1].veiled([0])
        quiet = led(self.moment, PASS, ("read", 0), PASS)[1].veiled([0])
        self.assertEqual((loud.answer(1), quiet.answer(1)), ("1", "0"))
        self.assertEqual(self.fault([(loud, quiet, ()), *self.triples]), ("harmed", 0, None))
        self.assertEqual(self.fault([*self.triples, (loud, quiet, ())]), ("harmed", len(self.triples), None))
        self.assertEqual(self.fault([self.triples[0], (loud, quiet, ())])[:2], ("open", 0))

    def test_harmed_by_a_letter(self):
        moment = start(tasks=[(0, 0), (1, 1)], ports=[1], rights=[[("take", 0)], [("take", 0)]], outside=(0, 2), locks=0)
        loud = led(moment, ("wait", 0), ("wait", 0))[1].veiled([0])
        quiet = led(moment, ("wait", 0), PASS)[1].veiled([0])
        self.assertEqual(kept_fault(moment, [0], [PORT], [(loud, quiet, ()), (moment, moment, ())]), ("harmed", 0, 0))

    def test_moments_that_are_not_veiled(self):
        """Nothing is wrong with them beside the others; what is behind them is veiled."""
        moment = led(self.moment, PASS)[1]
        self.assertEqual(moment.answer(0), "yes")
        self.assertIsNone(self.fault([*self.triples, (moment, moment, ())]))
        self.assertIsNone(self.fault([(moment, moment.veiled([0]), ()), *self.triples]))
        self.assertEqual(kept_fault(moment, [0], [PAGE], [(moment, moment, ())]), ("first",))

    def test_forms(self):
        moment, other = self.moment, start(**{**READER, "costs": (2, 0, 0)})
        late = led(moment, PASS)[1].veiled([0])
        for item in [(moment, moment), (moment, moment, (), ()), [moment, moment, ()], (moment, None, ()), (None, moment, ()),
                     (moment, moment, (0,)), (moment, moment, (1,)), (moment, moment, []), (moment, moment, None), moment, None,
                     (other, other, ()), (moment, other, ()), (late, moment, ()), (moment, late, ()),
                     (moment.build(), moment, ()), (Live(moment.build()), moment, ())]:
            self.assertEqual(self.fault([*self.triples, item]), ("form",))
            self.assertEqual(self.fault([item]), ("form",))
        for thing in [tuple(self.triples), dict(enumerate(self.triples)), None, moment]:
            self.assertEqual(self.fault(thing), ("form",))
        for value in odd_values():
            self.assertEqual(self.fault(value), ("first",) if value == [] else ("form",))
            self.assertEqual(self.fault([*self.triples, value]), ("form",))

    def test_tasks_that_know(self):
        self.moment = start(**CHAIN)
        triples = kept(self.moment, [0], [PAGE], eyes=[2], most=5000)[1]
        self.assertIsNone(self.fault(triples, eyes=[2]))
        self.assertEqual(self.fault([*triples, (self.moment, self.moment, (1,))], eyes=[2])[:2], ("open", len(triples)))
        for knowing in [(0,), (2,), (1, 1), (True,), [1], (0, 1), (3,)]:
            self.assertEqual(self.fault([*triples, (self.moment, self.moment, knowing)], eyes=[2]), ("form",))
        self.assertEqual(self.fault([*triples, (self.moment, self.moment, (1,))], eyes=[1, 2]), ("form",))

    def test_lists_that_are_changed_in_a_few_places(self):
        rng = random.Random(131)
        met = {"form": 0, "first": 0, "open": 0, "harmed": 0, None: 0}
        for _ in range(140):
            parts, ones, eyes = rng.choice([door_parts, door_parts, door_parts, chain_parts])(rng)
            doors = some_doors(rng, parts)
            build = Build(**parts)
            moment = later(rng, first(build), rng.choice([0, 0, 4]))
            try:
                told = kept(moment, ones, doors, eyes=eyes, most=90)
            except TooMany:
                continue
            triples = told[1] if told[0] == "kept" else [(moment.veiled(tasks_on(build, ones)),) * 2 + ((),)]
            for thing in changed_triples(rng, triples, moment):
                expected = plain_closed(moment, ones, thing, eyes, doors)
                self.assertEqual(kept_fault(moment, ones, doors, thing, eyes=eyes), expected)
                met[None if expected is None else expected[0]] += 1
        self.assertGreater(min(met.values()), 9, met)

    def test_thousands_of_triples(self):
        moment = start(**LARGE)
        triples = kept(moment, [0], [PAGE], most=5000)[1]
        self.assertGreater(len(triples), 3000)
        self.assertIsNone(kept_fault(moment, [0], [PAGE], triples))
        self.assertEqual(kept_fault(moment, [0], [PAGE], triples[:-1])[0], "open")

    def test_nothing_that_is_handed_in_is_changed(self):
        triples, ones, doors, eyes = list(self.triples), [0], [PAGE], [1]
        kept_fault(self.moment, ones, doors, triples, eyes=eyes)
        self.assertEqual((ones, doors, eyes, len(triples)), ([0], [PAGE], [1], len(self.triples)))
        self.assertTrue(all(one == other for one, other in zip(triples, self.triples)))


class TestBeside(unittest.TestCase):
    """Task 0 writes a page, which is no door, that task 1 reads: the door is a port."""

    def setUp(self):
        self.moment = start(**{**READER, "ports": [1], "rights": [[PORT, PAGE], [("read", 0)]]})
        self.rows = [write(0, 1), READ, SAME, LAST]

    def fault(self, rows, doors=(PORT,), **words):
        return beside_fault(self.moment, [0], list(doors), rows, **words)

    def test_what_kept_returns(self):
        told = kept(self.moment, [0], [PORT])
        self.assertEqual(told[0], "tells")
        self.assertIsNone(self.fault(told[2]))
        self.assertIsNone(self.fault(told[2], eyes=[1]))
        self.assertIsNone(self.fault(self.rows))

    def test_the_ones_make_any_call_in_both(self):
        for one, other in [(0, 1), (1, 0), (1, None)]:
            self.assertIsNone(self.fault([write(one, other), *self.rows[1:]]))
        self.assertIsNone(self.fault([(None, PASS, ("write", 0, 1)), *self.rows[1:]]))
        self.assertIsNone(self.fault([(None, ("give",), ("write", 0, 1)), *self.rows[1:]]))
        self.assertEqual(self.fault([write(1, 1), *self.rows[1:]]), ("same",))
        self.assertEqual(self.fault([write(0), *self.rows[1:]]), ("same",))

    def test_cut_off_and_lengthened(self):
        for many in range(1, 4):
            self.assertEqual(self.fault(self.rows[:many]), ("same",))
        self.assertEqual(self.fault([]), ("form",))
        self.assertEqual(self.fault([*self.rows, LAST]), ("parted", 3))
        self.assertIsNone(self.fault([SAME, SAME, *self.rows]))
        self.assertEqual(self.fault([SAME, *self.rows]), ("act", 1))

    def test_spoken(self):
        """Ahead of the last index, in one kernel alone, or another value."""
        send = ("send", 0, 1)
        for calls in [(send, PASS), (PASS, send), (send, ("send", 0, 0)), (send, ("write", 0, 1)), (("write", 0, 0), send)]:
            self.assertEqual(self.fault([(None, *calls), *self.rows[1:]]), ("spoken", 0))
            self.assertEqual(self.fault([*self.rows[:2], (None, *calls), LAST]), ("spoken", 2))
            self.assertIsNone(self.fault([*self.rows[:3], (None, *calls)]))
        self.assertEqual(self.fault([(None, send, send), *self.rows[1:]]), ("same",))
        self.assertIsNone(self.fault([*self.rows[:2], (None, send, send), LAST]))

    def test_each_door(self):
        self.assertEqual(self.fault(self.rows, [PAGE]), ("spoken", 0))
        self.assertEqual(self.fault(self.rows, [PORT, PAGE]), ("spoken", 0))
        send = (None, ("send", 0, 0), PASS)
        self.assertEqual(self.fault([send, READ, SAME, LAST], [PAGE]), ("same",))
        self.assertEqual(self.fault([send, READ, SAME, LAST], [PORT]), ("spoken", 0))

    def test_answered_no_is_not_spoken(self):
        """The second letter finds the port full; a call without the right is not spoken, either."""
        send, first_send = (None, ("send", 0, 0), PASS), (None, ("send", 0, 0), ("send", 0, 0))
        self.assertEqual(self.fault([first_send, SAME, send, SAME, LAST]), ("same",))
        self.assertEqual(self.fault([first_send, SAME, send, SAME, send, LAST]), ("same",))
        self.moment = start(**{**READER, "ports": [1], "rights": [[PAGE], [("read", 0)]]})
        self.assertIsNone(self.fault([write(0, 1), READ, send, LAST]))
        self.assertEqual(self.fault([(None, ("send", 0, 0), ("write", 0, 1)), READ, SAME, LAST]), None)

    def test_a_letter_to_one_who_waits_is_spoken(self):
        """Also where the port has no room: it comes to the task that waits."""
        moment = start(tasks=[(0, 0), (1, 1)], ports=[1], pages=[], locks=0, rights=[[PORT], [("take", 0)]])
        rows = [(None, ("wait", 0), ("wait", 0)), (None, ("send", 0, 1), PASS), LAST]
        self.assertEqual(beside_fault(moment, [0], [PORT], rows), ("spoken", 1))
        rows[1] = (None, ("send", 0, 1), ("send", 0, 0))
        self.assertEqual(beside_fault(moment, [0], [PORT], rows), ("spoken", 1))
        rows[1] = (None, ("send", 0, 1), ("send", 0, 1))
        self.assertEqual(beside_fault(moment, [0], [PORT], rows), ("same",))

    def test_what_others_send_is_not_spoken(self):
        """A third that knows sends by a port that is a door of the ones."""
        moment = start(**{**CHAIN, "ports": [1], "rights": [[PAGE], [("read", 0), PORT], [("take", 0)]]})
        rows = [write(0, 1), READ, SAME, SAME, (None, ("send", 0, 0), ("send", 0, 1)),
                (None, ("take", 0), ("take", 0)), SAME, SAME, LAST]
        self.assertIsNone(beside_fault(moment, [0], [PORT], rows, eyes=[2]))
        self.assertEqual(beside_fault(moment, [0], [PAGE], rows, eyes=[2]), ("spoken", 0))
        self.assertEqual(beside_fault(moment, [0], [PORT], put_in(rows, 0, SAME), eyes=[2]), ("act", 4))
        self.assertEqual(beside_fault(moment, [0, 1], [PORT], rows), ("spoken", 4))
        self.assertEqual(beside_fault(moment, [0], [PORT], rows), ("parted", 4))

    def test_letters_that_may_not_come(self):
        for at in range(4):
            for letter in [0, 1, True, "0", *odd_values()]:
                if letter is not None:
                    self.assertEqual(self.fault(put_in(self.rows, at, (letter, *self.rows[at][1:]))), ("act", at))

    def test_calls_that_do_not_fit(self):
        for call in [None, ("read", 1), ("read", True), ["read", 0], ("sleep", 3), *odd_values()]:
            if call not in (PASS, ("read", 0)):
                self.assertEqual(self.fault(put_in(self.rows, 0, (None, call, PASS))), ("act", 0))
                self.assertEqual(self.fault(put_in(self.rows, 0, (None, PASS, call))), ("act", 0))
                self.assertEqual(self.fault(put_in(self.rows, 1, (None, call, call))), ("act", 1))

    def test_calls_of_the_last_index_are_not_looked_at(self):
        for value in odd_values():
            self.assertIsNone(self.fault([*self.rows[:3], (None, value, value)]))

    def test_unlike_calls_of_the_eyes(self):
        self.assertEqual(self.fault(put_in(self.rows, 1, (None, ("read", 0), PASS))), ("act", 1))
        self.assertEqual(self.fault(put_in(self.rows, 1, (None, PASS, ("sleep", 1)))), ("act", 1))

    def test_the_order_at_one_index(self):
        """The letter, "parted", the two calls, "spoken"."""
        send = (("send", 0, 0), PASS)
        self.assertEqual(self.fault([*self.rows[:3], (0, None, 7), LAST]), ("act", 3))
        self.assertEqual(self.fault([*self.rows[:3], (None, None, 7), LAST]), ("parted", 3))
        self.assertEqual(self.fault([*self.rows[:3], (None, *send), LAST]), ("parted", 3))
        self.assertEqual(self.fault([(None, ("send", 0, 0), None), LAST]), ("act", 0))
        self.assertEqual(self.fault([(None, None, ("send", 0, 0)), LAST]), ("act", 0))
        self.assertEqual(self.fault([(1, *send), LAST]), ("act", 0))
        self.assertEqual(self.fault([(None, *send), (1, None, None)]), ("spoken", 0))
        self.assertEqual(self.fault([(None, *send), SAME, LAST]), ("spoken", 0))

    def test_parted_ahead_of_spoken(self):
        """In a tick in which the eyes have their turn in the one kernel, and the ones theirs in the other one."""
        moment = start(tasks=[(0, 1), (1, 0)], pages=[0], ports=[1], locks=0, rights=[[PORT], []])
        rows = [(None, ("sleep", 2), PASS), (None, PASS, ("send", 0, 0)), LAST]
        self.assertEqual(beside_fault(moment, [0], [PORT], rows), ("parted", 1))
        self.assertIsNone(beside_fault(moment, [0], [PORT], rows[:2]))

    def test_forms(self):
        for thing in [(), tuple(self.rows), [[None, None, None]], [(None, None)], [(None,) * 4], [*self.rows, None], {0: LAST}, None]:
            self.assertEqual(self.fault(thing), ("form",))
        for thing in odd_values():
            self.assertEqual(self.fault(thing), ("form",))

    def test_rows_that_are_changed_in_a_few_places(self):
        rng = random.Random(132)
        met = {"form": 0, "act": 0, "parted": 0, "spoken": 0, "same": 0, None: 0}
        for _ in range(260):
            parts, ones, eyes = rng.choice([door_parts, door_parts, door_parts, chain_parts])(rng)
            doors, build = some_doors(rng, parts), Build(**parts)
            moment = later(rng, first(build), rng.choice([0, 0, 4]))
            try:
                told = kept(moment, ones, doors, eyes=eyes, most=150)
            except TooMany:
                told = ("many",)
            calls = all_calls(parts)
            rows = told[2] if told[0] == "tells" else some_rows(rng, moment, ones)
            for thing in changed_rows(rng, rows, calls):
                expected = plain_tells(moment, ones, thing, eyes, calls, doors)
                self.assertEqual(beside_fault(moment, ones, doors, thing, eyes=eyes), expected)
                met[None if expected is None else expected[0]] += 1
        self.assertGreater(min(met.values()), 40, met)

    def test_hundred_rows(self):
        rows = [SAME] * 99 + [LAST]
        self.assertEqual(self.fault(rows), ("same",))
        self.assertIsNone(self.fault([*rows[:48], *self.rows]))

    def test_nothing_that_is_handed_in_is_changed(self):
        rows, saved, ones, doors, eyes = self.rows, list(self.rows), [0], [PORT], [1]
        beside_fault(self.moment, ones, doors, rows, eyes=eyes)
        self.assertEqual((rows, ones, doors, eyes), (saved, [0], [PORT], [1]))


def some_rows(rng, moment, ones):
    """Rows that mostly fit: any calls of the ones in both kernels, often the same."""
    loud, quiet, rows = moment, moment, []
    tasks = tasks_on(moment.build(), ones)
    for _ in range(rng.randint(1, 12)):
        letter = rng.choice(letters_of(loud))
        mine, yours = loud.due(letter), quiet.due(letter)
        one = None if mine is None else rng.choice(loud.calls(letter))
        other = None if yours is None else rng.choice(quiet.calls(letter))
        if mine == yours and (mine not in tasks or rng.random() < 0.6):
            other = one
        rows.append((letter, one, other))
        loud, quiet = loud.tick(letter, one)[1], quiet.tick(letter, other)[1]
    return rows


class TestErrors(unittest.TestCase):
    def test_no_ones_then_no_doors_then_no_eyes(self):
        moment = start(tasks=[(0, 0), (1, 0), (3, 0)], pages=[0, 1], ports=[1], locks=1, disk=2)
        good = [[0], [1], [3], [0, 1], [0, 3], [1, 3]]
        for judge in (kept_fault, beside_fault):
            for ones in [*odd_values(), [0, 1, 3], [2], [True], (0,)]:
                if repr(ones) not in [repr(row) for row in good]:
                    with self.subTest(f"{ones!r}"), self.assertRaises(NoOnes):
                        judge(moment, ones, None, None, eyes=7)
            for doors in no_doors():
                with self.subTest(f"{doors!r}"), self.assertRaises(NoDoors):
                    judge(moment, [1], doors, None, eyes=7)
            for eyes in [*odd_values(), [], [1], [1, 3], [3, 0], [2], [False]]:
                if eyes is not None and repr(eyes) not in ("[0]", "[3]", "[0, 3]"):
                    with self.subTest(f"{eyes!r}"), self.assertRaises(NoEyes):
                        judge(moment, [1], [PORT, PAGE], None, eyes=eyes)
            for eyes in (None, [0], [3], [0, 3]):
                self.assertEqual(judge(moment, [1], [PORT, PAGE], None, eyes=eyes), ("form",))


class TestFact(unittest.TestCase):
    def test_no_list_for_ones_that_tell_and_no_rows_for_ones_that_are_kept(self):
        """What either search returns has no fault; the other one finds a fault in whatever is like it."""
        rng = random.Random(133)
        met = {"kept": 0, "tells": 0}
        while min(met.values()) < 25:
            parts, ones, eyes = door_parts(rng)
            doors = some_doors(rng, parts)
            moment = first(Build(**parts))
            try:
                told = kept(moment, ones, doors, eyes=eyes, most=200)
            except TooMany:
                continue
            met[told[0]] += 1
            if told[0] == "tells":
                self.assertIsNone(beside_fault(moment, ones, doors, told[2], eyes=eyes))
                spot = (moment.veiled(tasks_on(moment.build(), ones)),) * 2 + ((),)
                self.assertIsNotNone(kept_fault(moment, ones, doors, [spot], eyes=eyes))
            else:
                self.assertIsNone(kept_fault(moment, ones, doors, told[1], eyes=eyes))
                for _ in range(12):
                    self.assertIsNotNone(beside_fault(moment, ones, doors, some_rows(rng, moment, ones), eyes=eyes))


class TestPost(unittest.TestCase):
    def test_what_is_taken_is_beside(self):
        moment = start(**{**POST, "rights": [[PORT, ("take", 0)], [("take", 0)]]})
        rows = [(None, ("send", 0, 0), ("send", 0, 0)), SAME, (None, ("take", 0), PASS),
                (None, ("take", 0), ("take", 0)), SAME, LAST]
        self.assertIsNone(beside_fault(moment, [0], [PORT], rows))
        self.assertEqual(beside_fault(moment, [0], [PORT], put_in(rows, 2, (None, ("take", 0), ("send", 0, 1)))), None)
        self.assertEqual(copy.deepcopy(rows), rows)


if __name__ == "__main__":
    unittest.main()
