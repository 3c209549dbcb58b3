"""[3], [4], [5], [31]: whether a task always comes to its turn."""

import copy
import random
import unittest

from hushkernel.builds import Build
from hushkernel.errors import NoMost, NoTask, TooMany
from hushkernel.graphs import graph
from hushkernel.live import Live
from hushkernel.moments import first, played
from hushkernel.serving import served, starves_fault

from tests.helper import (all_calls, has_own_lists, later, led, letters_of, odd_values, small_parts, some, some_parts, spoil,
                          start)

PASS = ("pass",)
NONE = (None, None)
GO = (None, PASS)
SLOTS = ("slots", [(0, 1), (1, 1)])
# Task 0 goes on for ever, if it will.
UNDER = dict(tasks=[(0, 1), (1, 0)], pages=[], ports=[], locks=0)


def plain_served(moment, task, most):
    """As [31] tells it: ("within", many), ("starves",), or ("many",)."""
    try:
        rows = graph(moment, most=most)
    except TooMany:
        return ("many",)
    ready = [at for at, (met, _) in enumerate(rows) if met.status(task) == ("ready",)]
    # Those from which so many ticks can go by without its turn.
    without, many = set(ready), 0
    while without:
        if many > len(rows):
            return ("starves",)
        many += 1
        without = {at for at in without if any(behind in without and rows[at][0].due(letter) != task
                                               for letter, _, behind in rows[at][1])}
    return ("within", many)


def fits(moment, act, calls):
    """Whether an act can be done at a moment."""
    if not (isinstance(act, tuple) and len(act) == 2):
        return False
    letter, call = act
    if not (letter is None or type(letter) is int) or letter not in letters_of(moment):
        return False
    if moment.due(letter) is None:
        return call is None
    return repr(call) in [repr(other) for other in calls]


def plain_starves(moment, task, thing, calls):
    """As [31] tells `starves_fault`."""
    if not (isinstance(thing, tuple) and len(thing) == 3 and isinstance(thing[0], str) and thing[0] == "starves"):
        return ("form",)
    if not (isinstance(thing[1], list) and isinstance(thing[2], list) and thing[2] != []):
        return ("form",)
    begun, at = None, 0
    for part, acts in enumerate(thing[1:]):
        begun = moment
        for index, act in enumerate(acts):
            if not fits(moment, act, calls):
                return ("act", at)
            if part == 1 and (moment.due(act[0]) == task or moment.status(task)[0] != "ready"):
                return ("turn", index)
            moment = moment.tick(*act)[1]
            at += 1
    return None if moment == begun else ("round",)


class TestAgainstPlainSearch(unittest.TestCase):
    def check(self, moment, task, most, calls):
        """The word of what is returned."""
        expected = plain_served(moment, task, most)
        if expected == ("many",):
            with self.assertRaises(TooMany) as caught:
                served(moment, task, most=most)
            self.assertEqual(caught.exception.most, most)
            return "many"
        told = served(moment, task, most=most)
        if expected[0] == "within":
            self.assertEqual(told, expected)
            return "within"
        self.assertEqual(told[0], "starves")
        self.assertIsNone(starves_fault(moment, task, told))
        self.assertIsNone(plain_starves(moment, task, told, calls))
        self.assertGreaterEqual(len(told[2]), 1)
        return "starves"

    def compare(self, seed, builds, most, drawn_parts, words):
        rng = random.Random(seed)
        met = {word: 0 for word in words}
        for _ in range(builds):
            parts = drawn_parts(rng)
            moment = later(rng, first(Build(**parts)), rng.choice([0, 0, 5]))
            for task in range(len(parts["tasks"])):
                word = self.check(moment, task, most, all_calls(parts))
                if word in met:
                    met[word] += 1
        self.assertGreater(min(met.values()), 2, met)

    def test_small_builds(self):
        self.compare(71, 150, 250, small_parts, ("many", "within", "starves"))

    def test_many_things(self):
        self.compare(72, 70, 500, some_parts, ("many", "within", "starves"))

    def test_graphs_of_about_a_thousand_moments(self):
        rng = random.Random(73)
        met = {"within": 0, "starves": 0}
        while min(met.values()) < 2:
            parts = small_parts(rng)
            moment = first(Build(**parts))
            try:
                if not 500 < len(graph(moment, most=1500)) < 1500:
                    continue
            except TooMany:
                continue
            for task in range(len(parts["tasks"])):
                word = self.check(moment, task, 1500, all_calls(parts))
                if word in met:
                    met[word] += 1


class TestByHand(unittest.TestCase):
    def test_slots(self):
        """Ready behind its turn, and then every second tick; a sleep ends in the tick of its turn, too."""
        moment = start(**{**UNDER, "plan": SLOTS})
        self.assertEqual(served(moment, 0), ("within", 2))
        self.assertEqual(served(moment, 1), ("within", 2))
        moment = start(**{**UNDER, "plan": ("slots", [(0, 1), (1, 3)])})
        self.assertEqual(served(moment, 0), ("within", 4))
        self.assertEqual(served(moment, 1), ("within", 2))

    def test_costs_that_do_not_fit_into_what_is_left(self):
        moment = start(**{**UNDER, "plan": ("slots", [(0, 3), (1, 5)]), "costs": (2, 0, 1)})
        self.assertEqual(served(moment, 0), ("within", 8))
        self.assertEqual(served(moment, 1), ("within", 6))

    def test_a_slot_that_is_too_short(self):
        moment = start(**{**UNDER, "plan": ("slots", [(0, 2), (1, 1)]), "costs": (2, 0, 0)})
        told = served(moment, 1)
        self.assertEqual(told[0], "starves")
        self.assertIsNone(starves_fault(moment, 1, told))
        self.assertEqual(served(moment, 0), ("within", 3))

    def test_a_task_without_a_slot(self):
        moment = start(**{**UNDER, "plan": ("slots", [(0, 1)])})
        self.assertEqual(served(moment, 0), ("within", 1))
        told = served(moment, 1)
        self.assertEqual((told[0], starves_fault(moment, 1, told)), ("starves", None))

    def test_levels(self):
        """With the same level each has its turn; with another one the lower one may wait for ever."""
        self.assertEqual(served(start(**{**UNDER, "tasks": [(0, 0), (1, 0)]}), 0), ("within", 2))
        moment = start(**UNDER)
        self.assertEqual(served(moment, 0), ("within", 1))
        told = served(moment, 1)
        self.assertEqual(told[0], "starves")
        self.assertIsNone(starves_fault(moment, 1, told))

    def test_spans_and_costs(self):
        """The other task has turns until it has spent the span: 1, 2, or 3 calls of two ticks."""
        for span, many in ((1, 3), (2, 3), (3, 5), (4, 5), (5, 7)):
            moment = start(**{**UNDER, "tasks": [(0, 0), (1, 0)], "plan": ("levels", span), "costs": (2, 0, 0)})
            expected = plain_served(moment, 0, 3000)
            self.assertEqual(served(moment, 0, most=3000), expected)
            self.assertEqual(expected[0], "within")
            self.assertGreaterEqual(expected[1], many)

    def test_switches(self):
        """A turn, two ticks to it, and two to the turn of this one."""
        for switch in (0, 1, 2):
            moment = start(**{**UNDER, "tasks": [(0, 0), (1, 0)], "costs": (1, 0, switch)})
            self.assertEqual(served(moment, 1), plain_served(moment, 1, 500))
            self.assertEqual(served(moment, 1), ("within", 2 + 2 * switch))

    def test_lent_levels(self):
        """Task 0 holds the lock for which task 2, of the greatest level, waits: a lent level keeps task 1 from its turn."""
        changes = dict(tasks=[(0, 0), (1, 1), (2, 2)], pages=[], ports=[1], locks=1,
                       rights=[[("lock", 0)], [("send", 0)], [("lock", 0), ("take", 0)]])
        acts = [("wait", 0), ("sleep", 2), ("lock", 0), ("send", 0, 0), ("lock", 0)]
        for lend in (False, True):
            moment = led(start(**changes, lend=lend), *acts)[1]
            self.assertEqual([moment.status(task)[0] for task in range(3)], ["ready", "ready", "locked"])
            claim = ("starves", [GO, GO], [GO])
            self.assertEqual(starves_fault(moment, 1, claim), None if lend else ("turn", 0))
            self.assertEqual(starves_fault(moment, 0, claim), ("turn", 0) if lend else None)
            self.assertEqual(served(moment, 1, most=3000)[:1], plain_served(moment, 1, 3000)[:1])

    def test_acts_that_lead_to_a_turn_are_not_the_round(self):
        """The first call worth trying locks the high task, so that the low one has its turn; only others starve it."""
        moment = start(tasks=[(0, 1), (1, 0)], pages=[], ports=[], locks=1, rights=[[("lock", 0)], [("lock", 0)]])
        moment = led(moment, ("sleep", 2), ("lock", 0))[1]
        self.assertEqual(moment.calls()[0], ("lock", 0))
        self.assertEqual(led(moment, ("lock", 0))[1].due(), 1)
        told = served(moment, 1)
        self.assertEqual((told[0], starves_fault(moment, 1, told)), ("starves", None))

    def test_letters_from_outside(self):
        """The letters that wake the high task keep the low one from its turn; without them it has it at once."""
        changes = dict(tasks=[(0, 1), (1, 0)], pages=[], ports=[1], locks=0, rights=[[("take", 0)], []])
        moment = led(start(**changes, outside=(0, 1)), ("wait", 0))[1]
        told = served(moment, 1)
        self.assertEqual(told[0], "starves")
        self.assertTrue(any(letter is not None for letter, _ in told[1] + told[2]) or told[2][0][1] is not None)
        moment = led(start(**changes), ("wait", 0))[1]
        self.assertEqual(served(moment, 1), ("within", 1))
        self.assertEqual(served(moment, 0), ("within", 0))

    def test_ready_at_no_moment(self):
        """It waits for a letter that never comes."""
        moment = led(start(**{**UNDER, "ports": [1], "rights": [[("take", 0)], []]}), ("wait", 0))[1]
        self.assertEqual(served(moment, 0), ("within", 0))

    def test_ready_only_behind_its_sleep(self):
        """A sleep that ends in the tick of its turn: it is ready at no moment but those behind its other calls."""
        moment = start(**{**UNDER, "plan": ("slots", [(0, 1)])})
        self.assertEqual(served(led(moment, ("sleep", 1))[1], 0), ("within", 1))

    def test_frames(self):
        for share in (False, True):
            moment = start(**{**UNDER, "tasks": [(0, 0), (1, 0)], "frames": 1, "share": share})
            self.assertEqual(served(moment, 0), plain_served(moment, 0, 500))

    def test_the_row_leads_from_the_moment(self):
        moment = led(start(**UNDER), ("sleep", 2), PASS)[1]
        told = served(moment, 1)
        self.assertIsNone(starves_fault(moment, 1, told))
        spot = played(moment, told[1])[1]
        seen, behind = played(spot, told[2])
        self.assertTrue(behind == spot)
        self.assertNotIn(1, [sight[0] for sight in seen if sight is not None])


class TestBounds(unittest.TestCase):
    def test_the_exact_bound_of_the_graph(self):
        for changes in (UNDER, {**UNDER, "plan": SLOTS}, {**UNDER, "frames": 1, "plan": SLOTS}):
            moment = start(**changes)
            many = len(graph(moment))
            for task in (0, 1):
                self.assertEqual(served(moment, task, most=many), served(moment, task))
                for most in (many - 1, 1):
                    with self.assertRaises(TooMany) as caught:
                        served(moment, task, most=most)
                    self.assertEqual(caught.exception.most, most)

    def test_five_hundred_without_words(self):
        rng = random.Random(74)
        met = 0
        while met < 2:
            moment = first(Build(**small_parts(rng)))
            try:
                many = len(graph(moment, most=3000))
            except TooMany:
                continue
            if many > 500:
                met += 1
                with self.assertRaises(TooMany) as caught:
                    served(moment, 0)
                self.assertEqual(caught.exception.most, 500)
                self.assertIn(served(moment, 0, most=many)[0], ("within", "starves"))

    def test_thousands_of_moments(self):
        """Also a long way, which is no recursion."""
        moment = start(tasks=[(0, 0), (1, 0)], pages=[0, 0, 0], ports=[2], locks=1,
                       plan=("slots", [(0, 1), (1, 12), (0, 1), (1, 12)]), costs=(1, 0, 0),
                       rights=[[("take", 0), ("write", 0), ("write", 1)], []])
        many = len(graph(moment, most=3000))
        self.assertGreater(many, 1000)
        self.assertEqual(served(moment, 0, most=3000), ("within", 13))
        self.assertEqual(served(moment, 1, most=3000), ("within", 2))


class TestErrors(unittest.TestCase):
    def test_no_task(self):
        moment = start(**UNDER)
        for task in [-1, 2, True, False, None, "0", 0.0, [0], *odd_values()]:
            if not (type(task) is int and task in (0, 1)):
                with self.subTest(f"{task!r}"):
                    with self.assertRaises(NoTask):
                        served(moment, task, most=None)
                    with self.assertRaises(NoTask):
                        starves_fault(moment, task, None)

    def test_no_most(self):
        for most in [0, -1, 3001, True, None, "1", *odd_values()]:
            if not (type(most) is int and 1 <= most <= 3000):
                with self.subTest(f"{most!r}"), self.assertRaises(NoMost):
                    served(start(**UNDER), 1, most=most)
        self.assertEqual(served(start(**UNDER), 0, most=3000), ("within", 1))


class TestFault(unittest.TestCase):
    def setUp(self):
        """Task 1 is kept from its turn as long as task 0 passes; behind a sleep it has one."""
        self.moment = start(**UNDER)
        # Behind the first pass the answer of task 0 is always "yes".
        self.good = ("starves", [GO], [GO, GO])

    def fault(self, acts, turn, task=1):
        return starves_fault(self.moment, task, ("starves", acts, turn))

    def test_no_fault(self):
        self.assertIsNone(starves_fault(self.moment, 1, self.good))
        self.assertIsNone(self.fault([GO], [GO]))
        self.assertIsNone(self.fault([GO] * 50, [GO] * 50))
        self.assertIsNone(self.fault([(None, ("sleep", 2)), GO, GO], [GO]))

    def test_calls_that_are_not_worth_trying(self):
        moment = start(**{**UNDER, "pages": [0]})
        no = (None, ("read", 0))
        self.assertIsNone(starves_fault(moment, 1, ("starves", [no], [no])))
        self.assertEqual(starves_fault(moment, 1, ("starves", [no], [GO])), ("round",))
        self.assertIsNone(starves_fault(moment, 1, ("starves", [no], [GO, no])))

    def test_form(self):
        for thing in [("starves", [GO]), ("starves", [GO], [GO], []), ["starves", [GO], [GO]], ("Starves", [GO], [GO]),
                      ("within", [GO], [GO]), (None, [GO], [GO]), ("starves", (GO,), [GO]), ("starves", [GO], (GO,)),
                      ("starves", [GO], []), ("starves", [], []), ("starves", None, [GO]), ("starves", [GO], None),
                      ("starves", {}, [GO]), ("starves", [GO], {0: GO}), ("starves", [GO], "ab"), "starves", ("within", 1), None]:
            with self.subTest(f"{thing!r}"):
                self.assertEqual(starves_fault(self.moment, 1, thing), ("form",))
        for value in odd_values():
            self.assertEqual(starves_fault(self.moment, 1, value), ("form",))
            self.assertEqual(starves_fault(self.moment, 1, (value, [GO], [GO])), ("form",))
            if not isinstance(value, list):
                self.assertEqual(self.fault(value, [GO]), ("form",))
                self.assertEqual(self.fault([GO], value), ("form",))

    def test_act(self):
        """An index of both lists put together."""
        for value in [(None, None), (0, PASS), (None, ("read", 0)), (None, PASS, PASS), [None, PASS], (None,), *odd_values()]:
            if value not in (GO,):
                self.assertEqual(self.fault([value], [GO]), ("act", 0))
                self.assertEqual(self.fault([GO, value], [GO]), ("act", 1))
                self.assertEqual(self.fault([GO, GO], [value]), ("act", 2))
                self.assertEqual(self.fault([GO, GO], [GO, GO, value]), ("act", 4))
                self.assertEqual(self.fault([], [value]), ("act", 0))

    def test_act_without_a_turn(self):
        moment = start(**{**UNDER, "costs": (2, 0, 0)})
        self.assertIsNone(starves_fault(moment, 1, ("starves", [GO, NONE], [GO, NONE])))
        self.assertEqual(starves_fault(moment, 1, ("starves", [GO, GO], [GO, NONE])), ("act", 1))
        self.assertEqual(starves_fault(moment, 1, ("starves", [GO, NONE], [GO, GO])), ("act", 3))
        self.assertEqual(starves_fault(moment, 1, ("starves", [GO, NONE], [NONE, GO])), ("act", 2))

    def test_turn(self):
        """An index in the second list."""
        sleep = (None, ("sleep", 2))
        self.assertEqual(self.fault([], [sleep, GO, GO]), ("turn", 1))
        self.assertEqual(self.fault([sleep], [GO, GO]), ("turn", 0))
        self.assertEqual(self.fault([GO, GO], [GO, sleep, GO, GO]), ("turn", 2))
        self.assertEqual(self.fault([], [GO, GO], task=0), ("turn", 0))

    def test_turn_in_the_first_list_is_no_fault(self):
        sleep = (None, ("sleep", 2))
        self.assertIsNone(self.fault([sleep, GO, GO], [GO]))

    def test_not_ready(self):
        """Its sleep, or its waiting, is no starving."""
        moment = start(**{**UNDER, "ports": [1], "rights": [[], [("take", 0)]]})
        acts = [(None, ("sleep", 2)), (None, ("wait", 0)), GO]
        self.assertEqual(starves_fault(moment, 1, ("starves", acts, [GO])), ("turn", 0))
        acts = [(None, ("sleep", 2)), (None, ("sleep", 2))]
        self.assertEqual(starves_fault(moment, 1, ("starves", acts, [GO, GO])), ("turn", 0))

    def test_act_goes_ahead_of_turn_at_one_act_alone(self):
        sleep = (None, ("sleep", 2))
        self.assertEqual(self.fault([sleep], [(None, None)]), ("act", 1))
        self.assertEqual(self.fault([sleep], [GO, None]), ("turn", 0))
        self.assertEqual(self.fault([sleep, None], [GO]), ("act", 1))

    def test_round(self):
        self.assertEqual(self.fault([], [GO]), ("round",))
        self.assertEqual(self.fault([GO], [GO, (None, ("sleep", 1))]), ("round",))
        self.assertEqual(self.fault([], [GO] * 100), ("round",))

    def test_round_to_the_begin_of_the_second_list(self):
        """Not to that of the first one."""
        moment = start(**{**UNDER, "pages": [0], "rights": [[("write", 0)], []]})
        acts = [(None, ("write", 0, value)) for value in (0, 1)]
        self.assertEqual(starves_fault(moment, 1, ("starves", acts, [acts[0]])), ("round",))
        self.assertIsNone(starves_fault(moment, 1, ("starves", acts, acts)))
        self.assertIsNone(starves_fault(moment, 1, ("starves", acts, [acts[1]])))

    def test_claims_that_are_spoilt(self):
        rng = random.Random(75)
        met = {"act": 0, "turn": 0, "round": 0, "form": 0, None: 0}
        while min(met.values()) < 12:
            parts = small_parts(rng)
            moment = first(Build(**parts))
            calls = all_calls(parts)
            try:
                told = served(moment, 1, most=200)
            except TooMany:
                continue
            if told[0] != "starves":
                continue
            for _ in range(6):
                thing = spoilt(rng, told, calls)
                for task in (1, 1, 0):
                    expected = plain_starves(moment, task, thing, calls)
                    self.assertEqual(starves_fault(moment, task, thing), expected)
                    met[None if expected is None else expected[0]] += 1


def spoilt(rng, told, calls):
    """The claim itself, or one that is like it."""
    lists = [list(told[1]), list(told[2])]
    kind = rng.choice(["none", "cut", "more", "call", "letter", "move", "twice", "pass"])
    rows = rng.choice([row for row in lists if row])
    at = rng.randrange(len(rows))
    if kind == "cut":
        del rows[at]
    elif kind == "more":
        rows.insert(at, rng.choice(rows))
    elif kind == "call":
        rows[at] = (rows[at][0], rng.choice([None, *calls]))
    elif kind == "pass":
        rows[at] = (rows[at][0], rng.choice([PASS, ("sleep", 2), ("sleep", 1)]))
    elif kind == "letter":
        rows[at] = (rng.choice([None, 0, 1, True]), rows[at][1])
    elif kind == "move":
        lists[0].append(lists[1].pop(0))
    elif kind == "twice":
        lists[1] += lists[1]
    return ("starves", *lists)


class TestValues(unittest.TestCase):
    def test_lists_are_new(self):
        moment = start(**UNDER)
        told = served(moment, 1)
        self.assertTrue(has_own_lists(told))
        saved = copy.deepcopy(told)
        spoil(told)
        self.assertEqual(served(moment, 1), saved)

    def test_nothing_that_is_handed_in_is_changed(self):
        moment, thing = start(**UNDER), ("starves", [GO], [GO, GO])
        served(moment, 1)
        starves_fault(moment, 1, thing)
        self.assertEqual(thing, ("starves", [GO], [GO, GO]))
        self.assertTrue(moment == start(**UNDER))

    def test_objects_as_things(self):
        for thing in (Build(**some()), start(), Live(Build(**some()))):
            self.assertEqual(starves_fault(start(**UNDER), 0, thing), ("form",))


class TestFact(unittest.TestCase):
    def test_within_exactly_if_nothing_starves(self):
        """A search of the tests' own for a round of any calls of the build, worth trying or not."""
        rng = random.Random(76)
        met = {"within": 0, "starves": 0}
        while min(met.values()) < 12:
            parts = small_parts(rng)
            parts["pages"], parts["lines"] = parts["pages"][:1], parts["lines"][:1]
            parts["rights"] = [[right for right in row if right[1] == 0 and right[0] != "hand"] for row in parts["rights"]]
            moment, calls = first(Build(**parts)), all_calls(parts)
            ways = self.ways(moment, calls, 250)
            if ways is None:
                continue
            for task in (0, 1):
                idle = {at: [to for to in behind[1] if to[0] != task] for at, behind in ways.items()
                        if behind[0].status(task) == ("ready",)}
                while any(not steps for steps in idle.values()):
                    idle = {at: steps for at, steps in idle.items() if steps}
                    idle = {at: [step for step in steps if step[1] in idle] for at, steps in idle.items()}
                word = "starves" if idle else "within"
                self.assertEqual(served(moment, task, most=250)[0], word)
                met[word] += 1

    def ways(self, moment, calls, most):
        """For each moment that any calls lead to: itself, and the tuples (who has its turn, where it leads to)."""
        found, queue = {moment.shape(): None}, [moment]
        for at in queue:
            steps = set()
            for letter in letters_of(at):
                turn = at.due(letter)
                for call in [None] if turn is None else calls:
                    behind = at.tick(letter, call)[1]
                    steps.add((turn, behind.shape()))
                    if behind.shape() not in found:
                        found[behind.shape()] = None
                        queue.append(behind)
            found[at.shape()] = (at, steps)
            if len(queue) > most:
                return None
        return found


if __name__ == "__main__":
    unittest.main()
