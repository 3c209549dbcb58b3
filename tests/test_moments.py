"""[3], [4], [11], [17], [19], [23] veiled: moments, what they tell, and rows of acts."""

import copy
import unittest

from hushkernel.builds import Build
from hushkernel.errors import NoActs, NoCall, NoLetter, NoTask, NoTasks
from hushkernel.moments import Moment, first, played

from tests.helper import all_calls, has_own_lists, led, odd_values, some, spoil, start

PASS = ("pass",)

RICH = some(
    tasks=[(0, 1), (1, 0), (2, 2)], pages=[1, 0, 1], ports=[2, 1], locks=2, frames=2, disk=3,
    rights=[
        [("lock", 0), ("read", 0), ("read", 2), ("seek", 0)],
        [("take", 1)],
        [("hand", 1), ("lock", 0), ("send", 0), ("take", 1), ("write", 1)],
    ],
    lines=[0, None, 1], costs=(1, 1, 0), plan=("levels", 3), outside=(1, 2),
)


def rich():
    """A moment at which a task is ready, one waits, one is locked, and nothing else is as at first."""
    acts = [
        ("send", 0, 1), ("lock", 0), ("get",), ("hand", 1, ("lock", 0)), ("write", 1, 1), None, ("wait", 1),
        ("read", 2), None, ("seek", 2), None, None, ("lock", 0),
    ]
    return led(first(Build(**RICH)), *acts)[1]


class TestFirst(unittest.TestCase):
    def test_the_first_moment(self):
        moment = first(Build(**RICH))
        self.assertTrue(moment.build() == Build(**RICH))
        for task in range(3):
            self.assertEqual(moment.status(task), ("ready",))
            self.assertIsNone(moment.answer(task))
            self.assertEqual(moment.rights(task), RICH["rights"][task])
            self.assertEqual(moment.held(task), 0)
        self.assertEqual(moment.pages(), [1, 0, 1])
        self.assertEqual(moment.ports(), [[], []])
        self.assertEqual(moment.locks(), [(None, ()), (None, ())])
        self.assertEqual(moment.lines(), [None, None])
        self.assertEqual(moment.head(), 0)
        self.assertEqual(moment.running(), (None, 0, 0, 0))

    def test_the_shape_of_the_first_moment(self):
        rights = tuple(tuple(row) for row in RICH["rights"])
        self.assertEqual(first(Build(**RICH)).shape(), (
            (("ready",),) * 3, (None,) * 3, rights, (0, 0, 0), (1, 0, 1), ((), ()),
            ((None, ()), (None, ())), (None, None), 0, (None, 0, 0, 0),
        ))
        bare = start(pages=[], ports=[], locks=0).shape()
        self.assertEqual(bare, ((("ready",),) * 2, (None,) * 2, ((), ()), (0, 0), (), (), (), (None, None), 0,
                                (None, 0, 0, 0)))

    def test_first_moments_of_unlike_builds(self):
        plain = first(Build(**some()))
        for flag in ("wipe", "pad", "lend", "share"):
            other = first(Build(**some(), **{flag: True}))
            self.assertFalse(plain == other)
            self.assertEqual(plain.shape(), other.shape())
        self.assertTrue(plain == first(Build(**some())))

    def test_the_phase_has_the_period_of_the_build(self):
        periods = [
            (("levels", 3), None, 1), (("levels", 3), (0, 4), 4), (("slots", [(0, 2), (1, 3)]), None, 5),
            (("slots", [(0, 2), (1, 3)]), (0, 3), 15), (("slots", [(0, 2), (1, 2)]), (0, 2), 4),
            (("slots", [(0, 4), (1, 2)]), (0, 4), 12), (("slots", [(0, 3)]), (0, 1), 3),
        ]
        for plan, outside, period in periods:
            moment = start(plan=plan, outside=outside)
            phases = []
            for _ in range(2 * period + 1):
                phases.append(moment.running()[3])
                moment = moment.tick(None, None if moment.due() is None else PASS)[1]
            self.assertEqual(phases, [tick % period for tick in range(2 * period + 1)])


class TestTold(unittest.TestCase):
    def test_a_moment_in_which_much_has_been_done(self):
        moment = rich()
        self.assertEqual([moment.status(task) for task in range(3)], [("locked", 0), ("ready",), ("waits", 1)])
        self.assertEqual([moment.answer(task) for task in range(3)], [None, None, None])
        self.assertEqual(moment.rights(1), [("lock", 0), ("take", 1)])
        self.assertEqual([moment.held(task) for task in range(3)], [0, 0, 1])
        self.assertEqual(moment.pages(), [1, 1, 1])
        self.assertEqual(moment.ports(), [[1], []])
        self.assertEqual(moment.locks(), [(2, (0,)), (None, ())])
        self.assertEqual(moment.lines(), [None, 2])
        self.assertEqual(moment.head(), 2)
        self.assertEqual(moment.running(), (0, 1, 1, 1))

    def test_the_shape_is_all_that(self):
        moment = rich()
        tasks = range(3)
        self.assertEqual(moment.shape(), (
            tuple(moment.status(task) for task in tasks), tuple(moment.answer(task) for task in tasks),
            tuple(tuple(moment.rights(task)) for task in tasks), tuple(moment.held(task) for task in tasks),
            tuple(moment.pages()), tuple(tuple(letters) for letters in moment.ports()), tuple(moment.locks()),
            tuple(moment.lines()), moment.head(), moment.running(),
        ))
        hash(moment.shape())

    def test_no_task(self):
        moment = start()
        for method in (moment.status, moment.answer, moment.rights, moment.held):
            for task in odd_values():
                if repr(task) not in ("0", "1"):
                    with self.subTest(f"{task!r}"), self.assertRaises(NoTask):
                        method(task)

    def test_what_is_returned_may_be_changed(self):
        moment = rich()
        shape = moment.shape()
        told = [moment.rights(2), moment.pages(), moment.ports(), moment.locks(), moment.lines(), moment.calls()]
        for value in told:
            self.assertTrue(has_own_lists(value))
            spoil(value)
        self.assertEqual(moment.shape(), shape)
        self.assertEqual(moment.ports(), [[1], []])
        self.assertNotIn("spoilt", moment.calls())

    def test_equal_moments(self):
        self.assertTrue(rich() == rich())
        self.assertFalse(rich() != rich())
        self.assertFalse(rich() == start())

    def test_each_part_counts_for_equality(self):
        """Two rows of acts behind which the moments differ in one part alone."""
        pairs = [
            (dict(frames=1), [("sleep", 2)], [("sleep", 1)]),
            (dict(frames=1), [("get",)], [PASS]),
            (dict(rights=[[("read", 0)], []]), [("read", 0)], [PASS]),
            (dict(rights=[[("strip", 0)], []]), [("strip", 0, ("strip", 0))], [PASS]),
            (dict(rights=[[("write", 0)], []]), [("write", 0, 1)], [("write", 0, 0)]),
            (dict(rights=[[("send", 0)], []]), [("send", 0, 1)], [("send", 0, 0)]),
            (dict(rights=[[("lock", 0)], []]), [("lock", 0)], [PASS]),
            (dict(rights=[[("read", 0)], []], lines=[0, 1]), [("read", 0)], [PASS]),
            (dict(rights=[[("seek", 0)], []], disk=3), [("seek", 2)], [("seek", 1)]),
            (dict(rights=[[("seek", 0)], []], disk=3), [("seek", 0)], [("seek", 1)]),
        ]
        for changes, one, other in pairs:
            with self.subTest(f"{one}"):
                self.assertFalse(led(start(**changes), *one)[1] == led(start(**changes), *other)[1])
        self.assertTrue(led(start(), PASS)[1] == led(start(), PASS)[1])
        two = start(plan=("levels", 2))
        self.assertFalse(led(two, PASS)[1] == led(two, PASS, PASS)[1])


class TestTick(unittest.TestCase):
    def test_due_and_seen(self):
        moment = start(plan=("slots", [(0, 1), (1, 1)]), rights=[[("read", 1)], []])
        self.assertEqual(moment.due(), 0)
        seen, moment = moment.tick(None, ("read", 1))
        self.assertEqual(seen, (0, None))
        self.assertEqual(moment.answer(0), "1")
        self.assertEqual(moment.due(), 1)
        self.assertEqual(moment.tick(None, PASS)[0], (1, None))
        moment = moment.tick(None, PASS)[1]
        seen, moment = moment.tick(None, ("sleep", 2))
        self.assertEqual(seen, (0, "1"))
        self.assertIsNone(moment.answer(0))

    def test_no_turn(self):
        moment = start(costs=(2, 0, 1))
        self.assertIsNone(moment.due())
        seen, moment = moment.tick()
        self.assertIsNone(seen)
        self.assertEqual(moment.running(), (0, 0, 1, 0))
        self.assertEqual(moment.due(), 0)
        moment = moment.tick(None, PASS)[1]
        self.assertIsNone(moment.due())
        self.assertEqual(moment.calls(), [])

    def test_the_moment_ahead_stays_as_it_was(self):
        moment = rich()
        shape, calls = moment.shape(), moment.calls()
        self.assertEqual(moment.due(), 1)
        for call in [*calls, ("sleep", 2), ("get",), ("strip", 2, ("hand", 1))]:
            moment.tick(None, call)
        moment.veiled([1])
        self.assertEqual((moment.shape(), moment.calls()), (shape, calls))

    def test_letters_that_may_come(self):
        moment = start(outside=(0, 2))
        for letter in (None, 0, 1):
            self.assertEqual(moment.due(letter), 0)
            self.assertEqual(moment.calls(letter), [("sleep", 1), ("sleep", 2), PASS])
        later = moment.tick(None, PASS)[1]
        for letter in (0, 1):
            for method in (later.due, later.calls, later.tick):
                with self.assertRaises(NoLetter):
                    method(letter)
        self.assertEqual(later.tick(None, PASS)[1].due(1), 0)

    def test_no_letter(self):
        for moment in (start(outside=(0, 1)), start(), start(outside=(0, 2)).tick(None, PASS)[1]):
            let = ["None", "0", "1"] if moment.build().outside() == (0, 1) else ["None"]
            for value in odd_values():
                if repr(value) not in let:
                    for method in (moment.due, moment.calls, moment.tick):
                        with self.subTest(f"{value!r}"), self.assertRaises(NoLetter):
                            method(value)

    def test_no_letter_goes_ahead_of_no_call(self):
        for value in odd_values():
            with self.assertRaises(NoLetter):
                start().tick(0, value)
            with self.assertRaises(NoLetter):
                start(costs=(1, 0, 1)).tick(2, value)

    def test_each_call_of_the_build_is_one(self):
        parts = {**RICH, "locks": 1}
        moment = first(Build(**parts))
        for call in all_calls(parts):
            self.assertEqual(moment.tick(None, call)[0], (2, None))

    def test_get_and_give_always_are_calls(self):
        moment = start(frames=0)
        self.assertEqual(moment.tick(None, ("get",))[1].answer(0), "no")
        self.assertEqual(moment.tick(None, ("give",))[1].answer(0), "no")

    def test_no_call(self):
        wrong = [
            ("read", 2), ("read", -1), ("read", True), ("read", "0"), ("read",), ("read", 0, 0), ["read", 0],
            ("write", 0, 2), ("write", 0, True), ("write", 2, 0), ("write", 0), ("write", 0, None), ("write", False, 0),
            ("send", 1, 0), ("send", 0, -1), ("send", 0, False), ("take", 1), ("wait", 1), ("take", 0, 0),
            ("lock", 1), ("free", 1), ("lock", True), ("free", None), ("hand", 2, ("read", 0)),
            ("hand", 0, ("read", 2)), ("hand", 0, ("seek", 0)), ("hand", 0, ("write", 0, 0)), ("hand", 0, ("wait", 0)),
            ("hand", 0, ["read", 0]), ("hand", 0), ("hand", 0, ("read", True)), ("hand", 0, None),
            ("strip", True, ("read", 0)), ("strip", 0, ("hand", 2)), ("strip", 0, ("pass",)),
            ("sleep", 0), ("sleep", 3), ("sleep", True), ("sleep",), ("sleep", 1, 1), ("seek", 0), ("seek", 1),
            ("get", 0), ("give", 0), ("pass", 0), ("pass", None), ("Pass",), ("yes",), ("",), "pass",
        ]
        moment = start()
        for call in wrong:
            with self.subTest(f"{call!r}"), self.assertRaises(NoCall):
                moment.tick(None, call)
        for call in odd_values():
            if call != PASS and call != ("read", 0):
                with self.subTest(f"{call!r}"), self.assertRaises(NoCall):
                    moment.tick(None, call)

    def test_places_of_a_disk(self):
        moment = start(disk=3)
        for place in (0, 1, 2):
            moment.tick(None, ("seek", place))
        for place in (-1, 3, True, False, None):
            with self.assertRaises(NoCall):
                moment.tick(None, ("seek", place))
        moment.tick(None, ("hand", 0, ("seek", 0)))
        with self.assertRaises(NoCall):
            moment.tick(None, ("hand", 0, ("seek", 1)))

    def test_a_call_without_a_turn(self):
        moment = start(costs=(1, 0, 1))
        for value in odd_values():
            if value is not None:
                with self.subTest(f"{value!r}"), self.assertRaises(NoCall):
                    moment.tick(None, value)
        self.assertIsNone(moment.tick(None, None)[0])


class TestVeiled(unittest.TestCase):
    def setUp(self):
        self.moment = led(start(tasks=[(0, 0), (1, 0), (1, 0)]), PASS, ("read", 0), PASS)[1]

    def test_answers_are_taken_away(self):
        moment = self.moment
        self.assertEqual(moment.shape()[1], ("yes", "no", "yes"))
        expected = {(): ("yes", "no", "yes"), (0,): (None, "no", "yes"), (1, 2): ("yes", None, None),
                    (0, 1, 2): (None, None, None)}
        for tasks, answers in expected.items():
            veiled = moment.veiled(list(tasks))
            self.assertIsInstance(veiled, Moment)
            self.assertEqual(veiled.shape()[1], answers)
            self.assertEqual(veiled.shape()[2:], moment.shape()[2:])
            self.assertEqual(veiled.shape()[0], moment.shape()[0])
            self.assertTrue(veiled.build() == moment.build())
        self.assertEqual(moment.shape()[1], ("yes", "no", "yes"))
        self.assertTrue(moment.veiled([]) == moment)
        self.assertFalse(moment.veiled([0]) == moment)

    def test_no_tasks(self):
        wrong = [[3], [-1], [1, 0], [0, 0], [True], [0, True], (0,), (), None, 0, "0", [None], [[0]], {}, [0, 1, 2, 3]]
        for tasks in [*wrong, *odd_values()]:
            if repr(tasks) not in ("[]", "[0]", "[1]", "[0, 1]"):
                with self.subTest(f"{tasks!r}"), self.assertRaises(NoTasks):
                    self.moment.veiled(tasks)


class TestPlayed(unittest.TestCase):
    def test_rows_that_fit(self):
        moment = start(rights=[[("write", 0)], [("read", 0)]], outside=(0, 3))
        self.assertEqual(played(moment, [])[0], [])
        self.assertTrue(played(moment, [])[1] == moment)
        acts = [(1, ("write", 0, 1)), (None, ("read", 0)), (None, PASS), (None, PASS)]
        seen, last = played(moment, acts)
        self.assertEqual(seen, [(0, None), (1, None), (0, "yes"), (1, "1")])
        self.assertEqual(last.pages(), [1, 1])
        self.assertEqual(last.ports(), [[1]])
        self.assertEqual(acts, [(1, ("write", 0, 1)), (None, ("read", 0)), (None, PASS), (None, PASS)])

    def test_ticks_without_a_turn(self):
        seen, last = played(start(costs=(2, 0, 1)), [(None, None), (None, PASS), (None, None), (None, None)])
        self.assertEqual(seen, [None, (0, None), None, None])
        self.assertEqual(last.running(), (1, 0, 1, 0))

    def test_a_hundred_acts(self):
        seen, last = played(start(), [(None, PASS)] * 100)
        self.assertEqual(seen, [(0, None), (1, None)] + [(0, "yes"), (1, "yes")] * 49)
        self.assertEqual(last.running(), (1, 1, 1, 0))

    def test_no_list(self):
        for value in [*odd_values(), ((None, PASS),)]:
            if not isinstance(value, list):
                with self.subTest(f"{value!r}"), self.assertRaises(NoActs) as caught:
                    played(start(), value)
                self.assertEqual(caught.exception.index, -1)

    def test_the_first_item_that_is_wrong(self):
        right = [(None, PASS)] * 3
        for value in odd_values():
            for at in range(4):
                with self.subTest(f"{value!r}"), self.assertRaises(NoActs) as caught:
                    played(start(), [*right[:at], value, None])
                self.assertEqual(caught.exception.index, at)

    def test_items_that_do_not_fit(self):
        moment = start(outside=(0, 2))
        wrong = [(2, PASS), (True, PASS), (None, None), (None, ("read", 2)), (None, PASS, None), (None,), (PASS,),
                 [None, PASS], ((), PASS), (None, ["pass"])]
        for act in wrong:
            with self.subTest(f"{act!r}"), self.assertRaises(NoActs) as caught:
                played(moment, [(1, PASS), (None, PASS), act])
            self.assertEqual(caught.exception.index, 2)
        with self.assertRaises(NoActs) as caught:
            played(moment, [(1, PASS), (0, PASS), (3, PASS)])
        self.assertEqual(caught.exception.index, 1)
        with self.assertRaises(NoActs) as caught:
            played(start(costs=(1, 0, 1)), [(None, PASS)])
        self.assertEqual(caught.exception.index, 0)

    def test_what_is_handed_in_is_not_changed(self):
        acts = [(None, ("hand", 1, ("read", 0))), (None, PASS)]
        kept = copy.deepcopy(acts)
        moment = start(rights=[[("hand", 1), ("read", 0)], []])
        shape = moment.shape()
        played(moment, acts)
        self.assertEqual((acts, moment.shape()), (kept, shape))


if __name__ == "__main__":
    unittest.main()
