"""[3], [4], [28]: kernels that are led live, with their quiet twin."""

import random
import unittest

from hushkernel.builds import Build
from hushkernel.errors import KernelError, NoBack, NoCall, NoLetter, NoOnes, NoTask, NoTick, TooMany
from hushkernel.hushes import hush
from hushkernel.live import Live
from hushkernel.moments import first, played

from tests.helper import Side, all_calls, has_own_lists, letters_of, odd_values, some, some_roles, spoil, twin_parts

PASS = ("pass",)

READER = some(tasks=[(1, 0), (0, 2)], pages=[1], ports=[], locks=0, rights=[[("read", 0)], [("write", 0)]],
              plan=("slots", [(0, 2), (1, 1)]))
READ = (None, ("read", 0))
WRITE = (None, ("write", 0, 0))


def reader(ones=(0,)):
    """The build of the interface, with a twin in which nothing is written."""
    return Live(Build(**READER), ones=None if ones is None else list(ones))


def lead(live, acts):
    return [live.tick(*act) for act in acts]


class PlainLive:
    """The acts alone are kept; all that is told is found by going through them again."""

    def __init__(self, build, ones):
        self.build, self.ones = build, ones
        self.side = None if ones is None else Side(build, ones)
        self.acts = []

    def told(self):
        """The moment, the twin, and what is seen in the two, tick by tick."""
        moment = twin = first(self.build)
        rows = []
        for letter, call in self.acts:
            mine, yours = moment.due(letter), twin.due(letter)
            other = None if yours is None else PASS
            if self.side is not None and yours is not None and yours not in self.side.ones and yours == mine:
                other = call
            one_seen, moment = moment.tick(letter, call)
            other_seen, twin = twin.tick(letter, other)
            rows.append((one_seen, other_seen))
        return moment, twin, rows

    def check(self, test, live):
        moment, twin, rows = self.told()
        test.assertTrue(live.moment() == moment)
        test.assertEqual(len(live), len(self.acts))
        test.assertEqual(list(live), self.acts)
        test.assertEqual([live[at] for at in range(len(live))], self.acts)
        for task in range(len(self.build.tasks())):
            test.assertEqual(live.seen(task), [(at, one[1]) for at, (one, _) in enumerate(rows) if one and one[0] == task])
        if self.side is None:
            test.assertIsNone(live.twin())
            test.assertIsNone(live.parted())
            return
        test.assertTrue(live.twin() == twin)
        for task in range(len(self.build.tasks())):
            turns = [(at, other[1]) for at, (_, other) in enumerate(rows) if other and other[0] == task]
            test.assertEqual(live.twin_seen(task), turns)
        test.assertEqual(live.parted(), self.parted(rows))

    def parted(self, rows):
        for at, row in enumerate(rows):
            one, other = [sight if sight and sight[0] not in self.side.ones else None for sight in row]
            if one != other:
                return at
        return None


def act_for(rng, live, calls):
    """An act that fits: mostly a call worth trying."""
    letter = rng.choice(letters_of(live.moment()))
    worth = live.calls(letter)
    if not worth:
        return letter, None
    return letter, rng.choice(worth if rng.random() < 0.7 else calls)


class TestAgainstPlain(unittest.TestCase):
    def test_ticks_taken_and_taken_back(self):
        rng = random.Random(51)
        parted = 0
        for _ in range(300):
            parts = twin_parts(rng)
            build, calls = Build(**parts), all_calls(parts)
            ones = None if rng.random() < 0.2 else some_roles(rng, build)[0]
            live, plain = Live(build, ones=ones), PlainLive(build, ones)
            for _ in range(40):
                if plain.acts and rng.random() < 0.25:
                    self.assertIsNone(live.back())
                    plain.acts.pop()
                else:
                    act = act_for(rng, live, calls)
                    plain.acts.append(act)
                    self.assertEqual(live.tick(*act), plain.told()[2][-1][0])
            plain.check(self, live)
            self.assertEqual(played(first(build), list(live)), ([row[0] for row in plain.told()[2]], live.moment()))
            parted += live.parted() is not None
        self.assertGreater(parted, 10)

    def test_due_and_calls_as_those_of_the_moment(self):
        rng = random.Random(52)
        for _ in range(20):
            parts = twin_parts(rng)
            live, calls = Live(Build(**parts)), all_calls(parts)
            for _ in range(15):
                for letter in letters_of(live.moment()):
                    self.assertEqual(live.due(letter), live.moment().due(letter))
                    self.assertEqual(live.calls(letter), live.moment().calls(letter))
                self.assertEqual((live.due(), live.calls()), (live.moment().due(), live.moment().calls()))
                live.tick(*act_for(rng, live, calls))

    def test_hushed_ones_never_part(self):
        rng = random.Random(53)
        met = 0
        while met < 30:
            parts = twin_parts(rng)
            build = Build(**parts)
            ones, _ = some_roles(rng, build)
            try:
                told = hush(first(build), ones, most=200)
            except TooMany:
                continue
            live = Live(build, ones=ones)
            if told[0] == "hushed":
                met += 1
                for _ in range(60):
                    live.tick(*act_for(rng, live, all_calls(parts)))
                self.assertIsNone(live.parted())
            else:
                lead(live, [row[:2] for row in told[2][:-1]])
                self.assertIsNone(live.parted())
                letter = told[2][-1][0]
                live.tick(letter, None if live.due(letter) is None else rng.choice(all_calls(parts)))
                self.assertEqual(live.parted(), len(told[2]) - 1)


class TestByHand(unittest.TestCase):
    def test_at_first(self):
        for live in (reader(), reader(None)):
            self.assertEqual((len(live), list(live), live.parted()), (0, [], None))
            self.assertTrue(live.moment() == first(Build(**READER)))
            self.assertEqual((live.seen(0), live.seen(1)), ([], []))
        self.assertTrue(reader().twin() == first(Build(**READER)))
        self.assertIsNone(reader(None).twin())
        self.assertEqual(reader().due(), 0)
        self.assertEqual(reader().calls(), [("read", 0), ("sleep", 1), ("sleep", 2), PASS])

    def test_a_twin_that_parts(self):
        live = reader()
        self.assertEqual(lead(live, [READ, READ, WRITE, READ]), [(0, None), (0, "1"), (1, None), (0, "1")])
        self.assertIsNone(live.parted())
        self.assertEqual(live.tick(None, ("sleep", 1)), (0, "0"))
        self.assertEqual(live.parted(), 4)
        self.assertEqual(live.seen(0), [(0, None), (1, "1"), (3, "1"), (4, "0")])
        self.assertEqual(live.twin_seen(0), [(0, None), (1, "1"), (3, "1"), (4, "1")])
        self.assertEqual((live.seen(1), live.twin_seen(1)), ([(2, None)], [(2, None)]))
        self.assertEqual((live.moment().pages(), live.twin().pages()), ([0], [1]))
        self.assertEqual(live.twin().status(0), ("asleep", 1))

    def test_parted_is_the_first_tick(self):
        live = reader()
        lead(live, [READ, READ, WRITE, READ, READ, (None, ("write", 0, 1)), READ, READ])
        self.assertEqual(live.parted(), 4)

    def test_unlike_answers_of_the_ones_do_not_part(self):
        """Task 1 of the ones sees "no", and "yes" in the twin; a task of another side sees nothing of it."""
        build = Build(**some(plan=("slots", [(0, 1)])))
        live = Live(build, ones=[0])
        lead(live, [(None, ("get",)), (None, ("sleep", 2)), (None, None), (None, PASS)])
        self.assertEqual(live.seen(0), [(0, None), (1, "no"), (3, "yes")])
        self.assertEqual(live.twin_seen(0), [(0, None), (1, "yes"), (2, "yes"), (3, "yes")])
        self.assertIsNone(live.parted())

    def test_others_without_the_same_turn_pass_in_the_twin(self):
        """Behind the sleep of the ones task 1 has its turn in the kernel alone, then task 0 in the twin alone."""
        live = Live(Build(**some(tasks=[(0, 1), (1, 0)], pages=[0], rights=[[], [("write", 0)]])), ones=[0])
        self.assertEqual(live.tick(None, ("sleep", 2)), (0, None))
        self.assertEqual(live.tick(None, ("write", 0, 1)), (1, None))
        self.assertEqual((live.moment().pages(), live.twin().pages()), ([1], [0]))
        self.assertEqual(live.parted(), 1)
        self.assertEqual(live.tick(None, PASS), (0, "yes"))
        self.assertEqual((live.seen(1), live.twin_seen(1)), ([(1, None)], []))
        live = Live(Build(**some(tasks=[(0, 1), (1, 0)], pages=[0], rights=[[], [("write", 0)]])), ones=[1])
        lead(live, [(None, ("sleep", 2)), (None, ("write", 0, 1))])
        self.assertEqual((live.moment().pages(), live.twin().pages()), ([1], [0]))
        self.assertIsNone(live.parted())

    def test_another_task_of_the_others_in_the_twin(self):
        """Task 0 waits for ever, but not in the twin: there the turns of the others come a tick later."""
        rights = [[("take", 0)], [("write", 0)], [("write", 0)]]
        live = Live(Build(**some(tasks=[(0, 0), (1, 0), (2, 0)], pages=[0], rights=rights)), ones=[0])
        lead(live, [(None, ("wait", 0)), (None, PASS), (None, PASS)])
        self.assertIsNone(live.parted())
        self.assertEqual(lead(live, [(None, PASS), (None, ("write", 0, 1))]), [(1, "yes"), (2, "yes")])
        self.assertEqual([live.twin_seen(task) for task in range(3)],
                         [[(0, None), (3, "yes")], [(1, None), (4, "yes")], [(2, None)]])
        self.assertEqual((live.moment().pages(), live.twin().pages()), ([1], [0]))
        self.assertEqual(live.parted(), 3)

    def test_letters_come_to_both(self):
        live = Live(Build(**some(ports=[1], outside=(0, 2), plan=("slots", [(1, 1), (0, 1)]))), ones=[0])
        live.tick(1, PASS)
        self.assertEqual((live.moment().ports(), live.twin().ports()), ([[1]], [[1]]))
        self.assertEqual(list(live), [(1, PASS)])

    def test_ticks_without_a_turn(self):
        live = Live(Build(**some(costs=(2, 0, 0))), ones=[1])
        self.assertEqual(live.tick(None, PASS), (0, None))
        self.assertIsNone(live.tick())
        self.assertEqual(list(live), [(None, PASS), (None, None)])
        self.assertEqual((live.seen(0), live.seen(1)), ([(0, None)], []))


class TestActs(unittest.TestCase):
    def test_by_index_and_in_order(self):
        live = reader()
        acts = [READ, (None, PASS), WRITE, READ]
        lead(live, acts)
        self.assertEqual([live[0], live[1], live[2], live[3]], acts)
        self.assertEqual([act for act in live], acts)
        self.assertEqual(len(live), 4)

    def test_a_loop_within_a_loop(self):
        live = reader()
        acts = [READ, (None, PASS), WRITE]
        lead(live, acts)
        self.assertEqual([(one, other) for one in live for other in live], [(one, other) for one in acts for other in acts])

    def test_a_loop_that_leads_and_takes_back(self):
        """The loop goes through the acts that there were."""
        live = reader()
        acts = [READ, READ, WRITE]
        lead(live, acts)
        met = []
        for act in live:
            live.tick(None, None if live.due() is None else PASS)
            met.append(act)
        self.assertEqual((met, len(live)), (acts, 6))
        for _ in live:
            live.back()
        self.assertEqual(len(live), 0)

    def test_no_tick(self):
        live = reader()
        for many in range(3):
            for index in [-1, many, many + 1, True, False, slice(0, 1), *odd_values()]:
                if repr(index) not in [str(number) for number in range(many)]:
                    with self.subTest(f"{index!r}"), self.assertRaises(NoTick):
                        live[index]
            live.tick(*READ)

    def test_no_back(self):
        live = reader()
        with self.assertRaises(NoBack):
            live.back()
        live.tick(*READ)
        self.assertIsNone(live.back())
        with self.assertRaises(NoBack):
            live.back()
        self.assertTrue(live.moment() == first(Build(**READER)))
        self.assertEqual(live.tick(*READ), (0, None))


class TestBack(unittest.TestCase):
    def test_tick_by_tick(self):
        live = reader()
        stages = []
        for act in [READ, READ, WRITE, READ, READ, WRITE]:
            stages.append(told_of(live))
            live.tick(*act)
        while stages:
            live.back()
            self.assertEqual(told_of(live), stages.pop())

    def test_parted_behind_ticks_that_were_taken_back(self):
        live = reader()
        lead(live, [READ, READ, WRITE, READ, READ, WRITE])
        self.assertEqual(live.parted(), 4)
        live.back()
        self.assertEqual(live.parted(), 4)
        live.back()
        self.assertIsNone(live.parted())
        for _ in range(2):
            live.back()
        lead(live, [(None, PASS), READ, READ])
        self.assertIsNone(live.parted())


def told_of(live):
    """All that a live kernel of two tasks tells."""
    turns = [live.seen(0), live.seen(1)]
    if live.twin() is not None:
        turns += [live.twin_seen(0), live.twin_seen(1), live.twin().shape()]
    return len(live), list(live), live.moment().shape(), turns, live.parted(), live.due(), live.calls()


class TestErrors(unittest.TestCase):
    def test_no_ones(self):
        build = Build(**some())
        for ones in [*odd_values(), [0, 1], [2], [True], (0,), [0, 0]]:
            if ones is not None and repr(ones) not in ("[0]", "[1]"):
                with self.subTest(f"{ones!r}"), self.assertRaises(NoOnes):
                    Live(build, ones=ones)
        with self.assertRaises(TypeError):
            Live(build, [0])

    def test_no_task(self):
        live, bare = reader(), reader(None)
        for task in [-1, 2, True, False, *odd_values()]:
            if repr(task) not in ("0", "1"):
                for ask in (live.seen, live.twin_seen, bare.seen, bare.twin_seen):
                    with self.subTest(f"{task!r}"), self.assertRaises(NoTask):
                        ask(task)

    def test_twin_seen_without_ones(self):
        for task in (0, 1):
            with self.assertRaises(NoOnes):
                reader(None).twin_seen(task)

    def test_no_letter_then_no_call(self):
        build = Build(**some(ports=[1], outside=(0, 2), plan=("slots", [(0, 2), (1, 1)]), costs=(2, 0, 0)))
        for ones in (None, [0], [1]):
            live = Live(build, ones=ones)
            plain = PlainLive(build, ones)
            for _ in range(7):
                letters, turn = letters_of(live.moment()), live.due() is not None
                for value in [*odd_values(), ("seek", 0), ("read", 2), True]:
                    if repr(value) not in map(repr, letters):
                        for ask in (live.due, live.calls):
                            self.assertRaises(NoLetter, ask, value)
                        self.assertRaises(NoLetter, live.tick, value, value)
                    if repr(value) not in (["('pass',)", "('read', 0)"] if turn else ["None"]):
                        self.assertRaises(NoCall, live.tick, letters[-1], value)
                plain.check(self, live)
                plain.acts.append((letters[-1], PASS if turn else None))
                live.tick(*plain.acts[-1])
            plain.check(self, live)


class TestValues(unittest.TestCase):
    def test_lists_may_be_changed(self):
        live = reader()
        lead(live, [READ, READ, WRITE, READ, READ])
        before = told_of(live)
        for ask in (lambda: live.seen(0), lambda: live.twin_seen(0), live.calls, lambda: list(live)):
            told = ask()
            self.assertTrue(has_own_lists(told))
            spoil([told])
            self.assertEqual(told_of(live), before)
        live.seen(0).clear()
        live.calls().clear()
        self.assertEqual(told_of(live), before)

    def test_ones_that_are_changed_afterwards(self):
        ones = [0]
        live = Live(Build(**READER), ones=ones)
        ones.append(1)
        ones[0] = 3
        lead(live, [READ, READ, WRITE, READ, READ])
        self.assertEqual(live.parted(), 4)
        self.assertEqual(ones, [3, 1])

    def test_several_at_once(self):
        one, other = reader(), reader()
        lead(one, [READ, READ, WRITE])
        self.assertEqual((len(one), len(other)), (3, 0))
        other.tick(None, PASS)
        self.assertEqual((list(one)[0], list(other)), (READ, [(None, PASS)]))


class Stop(Exception):
    """An error of a caller's own."""


class TestTried(unittest.TestCase):
    def setUp(self):
        self.live = reader()
        lead(self.live, [READ, READ, WRITE])
        self.before = told_of(self.live)

    def check(self):
        self.assertEqual(told_of(self.live), self.before)

    def test_it_returns_what_the_function_returned(self):
        told = [1, [2]]
        self.assertIs(self.live.tried(lambda live: told), told)
        self.assertIsNone(self.live.tried(lambda live: None))
        self.assertIs(self.live.tried(lambda live: live), self.live)
        self.check()

    def test_ticks_are_put_back(self):
        def action(live):
            lead(live, [READ, READ])
            return live.parted(), len(live), live.seen(0)
        self.assertEqual(self.live.tried(action), (4, 5, [(0, None), (1, "1"), (3, "1"), (4, "0")]))
        self.check()
        self.assertEqual(self.live.tick(*READ), (0, "1"))

    def test_ticks_that_were_taken_back_are_put_back(self):
        def action(live):
            live.back()
            live.back()
            lead(live, [(None, PASS)])
            return list(live)
        self.assertEqual(self.live.tried(action), [READ, (None, PASS)])
        self.check()
        self.assertRaises(NoBack, self.live.tried, lambda live: [live.back() for _ in range(4)])
        self.check()

    def test_errors_go_on(self):
        def stopped(live):
            live.tick(*READ)
            raise Stop("here")
        with self.assertRaises(Stop) as caught:
            self.live.tried(stopped)
        self.assertEqual(str(caught.exception), "here")
        self.check()
        for error, action in [
            (NoCall, lambda live: lead(live, [READ, (None, None)])), (NoLetter, lambda live: lead(live, [READ, (1, PASS)])),
            (NoTick, lambda live: live[3]), (ZeroDivisionError, lambda live: (live.back(), 1 // 0)),
            (KeyboardInterrupt, interrupted), (TypeError, None),
        ]:
            self.assertRaises(error, self.live.tried, action)
            self.check()
        self.assertRaises(KernelError, self.live.tried, lambda live: live.tick(5))
        self.check()

    def test_tried_within_tried(self):
        def inner(live):
            live.back()
            live.tick(None, ("sleep", 2))
            return list(live)

        def outer(live):
            live.tick(*READ)
            told = live.tried(inner)
            self.assertEqual(list(live), [READ, READ, WRITE, READ])
            self.assertRaises(NoBack, live.tried, lambda live: [live.back() for _ in range(9)])
            self.assertEqual(list(live), [READ, READ, WRITE, READ])
            live.back()
            live.back()
            return told
        self.assertEqual(self.live.tried(outer), [READ, READ, WRITE, (None, ("sleep", 2))])
        self.check()

    def test_within_a_loop(self):
        met = []
        for act in self.live:
            self.live.tried(lambda live: lead(live, [READ, READ]))
            met.append(act)
        self.assertEqual(met, [READ, READ, WRITE])
        self.check()

    def test_without_ones(self):
        live = reader(None)
        live.tick(*READ)
        self.assertEqual(live.tried(lambda it: (it.tick(*READ), it.twin(), it.parted())), ((0, "1"), None, None))
        self.assertEqual(list(live), [READ])


def interrupted(live):
    live.tick(*READ)
    raise KeyboardInterrupt


class TestLong(unittest.TestCase):
    def test_thousands_of_ticks(self):
        live = reader()
        for _ in range(1000):
            lead(live, [READ, READ, (None, PASS)])
        self.assertEqual(len(live), 3000)
        self.assertEqual(len(live.seen(0)), 2000)
        self.assertIsNone(live.parted())
        for _ in range(2999):
            live.back()
        self.assertEqual(list(live), [READ])


if __name__ == "__main__":
    unittest.main()
