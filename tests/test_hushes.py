"""[3], [4], [5], [22], [23], [25]: what the ones can tell the eyes."""

import copy
import random
import unittest
import zlib

from hushkernel.builds import Build
from hushkernel.errors import NoEyes, NoMost, NoOnes, TooMany
from hushkernel.hushes import hush, hushed_sets, learns
from hushkernel.judges import closed_fault, tells_fault
from hushkernel.moments import Moment, first

from tests.helper import (Side, all_calls, has_own_lists, key_of, later, led, letters_of, odd_values, plain_hush, some,
                          some_roles, spoil, start, twin_parts)

PASS = ("pass",)
LAST = (None, None, None)
ONE_SLOT = ("slots", [(0, 1)])

# The build of the interface: task 0, of side 1, reads what task 1, of side 0, writes.
READER = dict(tasks=[(1, 0), (0, 2)], pages=[1], ports=[], locks=0, rights=[[("read", 0)], [("write", 0)]],
              plan=("slots", [(0, 2), (1, 1)]))
# Side 1 reads what side 0 writes, and writes what side 2 reads.
CHAIN = dict(tasks=[(0, 0), (1, 0), (2, 0)], pages=[0, 0], ports=[], locks=0, plan=("slots", [(0, 1), (1, 1), (2, 1)]),
             rights=[[("write", 0)], [("read", 0), ("write", 1)], [("read", 1)]])
# Side 0 takes letters from outside: some thousand triples.
LARGE = dict(tasks=[(0, 0), (1, 0)], pages=[0, 0, 0], ports=[2], locks=1, outside=(0, 4),
             rights=[[("lock", 0), ("take", 0), ("write", 0)], []], plan=("slots", [(0, 1), (1, 1)]))
# Task 2 waits for letters of task 1, which has its turn only while task 0 is asleep.
UNDER = dict(tasks=[(0, 1), (1, 0), (2, 2)], pages=[], locks=0, rights=[[], [("send", 0)], [("take", 0)]])


def asked(moment, ones, eyes=None, most=2000):
    """What `hush` returns, the triples by their keys; ("many",) if there are too many."""
    try:
        told = hush(moment, ones, eyes=eyes, most=most)
    except TooMany as error:
        assert error.most == most
        return ("many",)
    return ("hushed", [key_of(triple) for triple in told[1]]) if told[0] == "hushed" else told


def chain_parts(rng):
    """The parts of a build in which side 1 learns something of side 0, and may hand it on."""
    parts = some(**copy.deepcopy(CHAIN), lend=rng.random() < 0.5)
    parts["rights"][0] = rng.choice([[("write", 0)], [("write", 0)], [("strip", 1)], [("send", 0)]])
    parts["rights"][1] = [("read", 0)]
    parts["rights"][2] = []
    extra = rng.choice([None, ("strip", 2), ("write", 1), ("write", 1), ("write", 0)])
    if extra is not None:
        parts["rights"][1] = sorted([("read", 0), extra])
        parts["rights"][2] = rng.choice([[], [("read", 1)], [("read", 1)]])
    if parts["rights"][0] == [("send", 0)]:
        parts["ports"], parts["rights"][1] = [1], [("take", 0)]
    if rng.random() < 0.2:
        parts["plan"] = ("levels", rng.randint(1, 3))
        parts["tasks"] = [(side, 2 - side) for side in range(3)]
    return parts


class TestAgainstPlainSearch(unittest.TestCase):
    def compare(self, seed, builds, most, drawn_parts=twin_parts, roles=some_roles):
        """How often each outcome came, and how often a third knew in a triple of the hushed."""
        rng = random.Random(seed)
        met = {"many": 0, "hushed": 0, "answer": 0, "time": 0, "thirds": 0}
        for _ in range(builds):
            build = Build(**drawn_parts(rng))
            ones, eyes = roles(rng, build)
            moment = later(rng, first(build), rng.choice([0, 0, 1, 6]))
            expected, many = plain_hush(moment, ones, eyes, most)
            self.assertEqual(asked(moment, ones, eyes, most), expected)
            met[expected[1] if expected[0] == "tells" else expected[0]] += 1
            if expected[0] == "hushed":
                met["thirds"] += any(key[2] for key in expected[1])
            if expected[0] != "many":
                # The harmed triple itself may be the one with the number most + 1.
                self.assertEqual(asked(moment, ones, eyes, many), expected)
                if many > 1:
                    self.assertEqual(asked(moment, ones, eyes, many - 1), ("many",))
        return met

    def test_many_builds(self):
        met = self.compare(21, 220, 120)
        for outcome in ("many", "hushed", "answer", "time"):
            self.assertGreater(met[outcome], 10, met)

    def test_some_builds_with_more_triples(self):
        met = self.compare(22, 60, 900)
        for outcome in ("hushed", "answer", "time"):
            self.assertGreater(met[outcome], 0, met)

    def test_thirds_that_know(self):
        met = self.compare(29, 60, 1200, chain_parts, lambda rng, build: ([0], [2]))
        for outcome in ("answer", "thirds"):
            self.assertGreater(met[outcome], 5, met)


class TestByHand(unittest.TestCase):
    def test_all_triples_in_order(self):
        """Task 0 alone has turns; the ones sleep for a tick, for two, or pass, and never see their answers."""
        told = hush(start(plan=ONE_SLOT), [0])
        ready, asleep, two = ("ready",), ("asleep", 1), ("asleep", 2)
        shapes = [(loud.status(0), loud.running()[2], quiet.status(0), quiet.running()[2], knowing)
                  for loud, quiet, knowing in told[1]]
        self.assertEqual(told[0], "hushed")
        self.assertEqual(shapes, [
            (ready, 0, ready, 0, ()), (asleep, 1, ready, 1, ()), (two, 1, ready, 1, ()), (ready, 1, ready, 1, ()),
            (asleep, 0, ready, 1, ()),
        ])
        for triple in told[1]:
            self.assertEqual([moment.answer(0) for moment in triple[:2]], [None, None])
            self.assertTrue(all(isinstance(moment, Moment) for moment in triple[:2]))

    def test_answers_of_the_others_are_kept(self):
        """The ones never have a turn, so the triples are the moments of the graph, each twice."""
        told = hush(start(plan=ONE_SLOT), [1])
        self.assertTrue(all(loud == quiet and knowing == () for loud, quiet, knowing in told[1]))
        self.assertEqual([loud.answer(0) for loud, _, _ in told[1]], [None, None, None, "yes", None])

    def test_the_build_of_the_interface(self):
        read = (None, ("read", 0), ("read", 0))
        rows = [read, read, (None, ("write", 0, 0), PASS), read, LAST]
        self.assertEqual(hush(start(**READER), [0]), ("tells", "answer", rows))
        self.assertEqual(hush(start(**READER), [0], eyes=[1]), ("tells", "answer", rows))
        self.assertEqual(hush(start(**READER), [1])[0], "hushed")

    def test_a_moment_that_is_not_the_first(self):
        """What the page holds plays its part, and what is on its way is seen."""
        moment = led(start(**READER), ("read", 0), PASS)[1]
        rows = [(None, ("write", 0, 0), PASS), (None, ("read", 0), ("read", 0)), LAST]
        self.assertEqual(hush(moment, [0]), ("tells", "answer", rows))
        moment = led(moment, ("write", 0, 0), ("read", 0), PASS)[1]
        told = hush(moment, [0])
        self.assertEqual(told[2][0], (None, ("write", 0, 1), PASS))
        self.assertEqual(len(told[2]), 3)

    def test_pending_answers_of_the_ones_are_veiled_at_once(self):
        moment = led(start(plan=ONE_SLOT), PASS)[1]
        self.assertEqual(moment.answer(0), "yes")
        triple = hush(moment, [0])[1][0]
        self.assertTrue(triple[0] == moment.veiled([0]) and triple[1] == moment.veiled([0]) and triple[2] == ())

    def test_no_turn_and_a_turn_without_an_answer_are_unlike(self):
        rows = [(None, ("sleep", 2), PASS), LAST]
        self.assertEqual(hush(start(tasks=[(0, 1), (1, 0)]), [0]), ("tells", "time", rows))

    def test_another_answer_at_the_same_turn(self):
        """No answer and an answer are unlike answers: a letter came only in the quiet kernel, from the waiting task."""
        moment = start(ports=[1], rights=[[("take", 0)], [("send", 0)]], plan=("slots", [(1, 1), (0, 1)]))
        told = hush(moment, [0])
        self.assertEqual(told[1], "answer")
        rows = [(None, ("send", 0, 0), ("send", 0, 0)), (None, ("take", 0), PASS),
                (None, ("send", 0, 0), ("send", 0, 0)), (None, ("take", 0), PASS), LAST]
        self.assertEqual(told[2], rows)

    def test_calls_of_the_quiet_kernel_alone(self):
        """In the loud kernel the read is not worth trying any more; it is tried behind all others."""
        moment = start(rights=[[("strip", 1)], [("read", 0), ("write", 0)]], plan=("slots", [(0, 1), (1, 1)]))
        rows = [(None, ("strip", 1, ("read", 0)), PASS), (None, ("read", 0), ("read", 0)),
                (None, ("strip", 1, ("write", 0)), PASS), LAST]
        self.assertEqual(hush(moment, [0]), ("tells", "answer", rows))
        side = Side(moment.build(), [0])
        loud, quiet = led(moment, ("strip", 1, ("read", 0)))[1], led(moment, PASS)[1]
        calls = [("write", 0, 0), ("write", 0, 1), ("sleep", 1), ("sleep", 2), PASS, ("read", 0)]
        self.assertEqual(side.calls(loud, quiet, None, []), [(call, call) for call in calls])

    def test_letters_from_outside_harm(self):
        """The ones fill the port, so that a letter is lost: by the letters 0 and 1, not without one."""
        moment = start(ports=[1], rights=[[("send", 0)], [("take", 0)]], outside=(0, 4),
                       plan=("slots", [(0, 1), (1, 1)]))
        told = hush(moment, [0])
        self.assertEqual(told[:2], ("tells", "answer"))
        waits = start(tasks=[(0, 0), (1, 1)], ports=[1], rights=[[("take", 0)], [("take", 0)]], outside=(0, 2), locks=0)
        told = hush(waits, [0])
        self.assertEqual(told[:2], ("tells", "time"))
        self.assertEqual(told[2][-1], (0, None, None))


class TestThirds(unittest.TestCase):
    def test_a_third_hands_on_in_the_very_tick_in_which_it_knows(self):
        told = hush(start(**CHAIN), [0], eyes=[2])
        self.assertEqual(told[:2], ("tells", "answer"))
        self.assertEqual(len(told[2]), 9)
        self.assertEqual(told[2][0], (None, ("write", 0, 1), PASS))
        self.assertEqual(told[2][1], (None, ("read", 0), ("read", 0)))
        self.assertEqual({told[2][4][1:].count(("write", 1, 1))}, {1})
        self.assertEqual(told[2][5], (None, ("read", 1), ("read", 1)))
        self.assertEqual(told[2][8], LAST)

    def test_eyes_of_a_chain(self):
        self.assertEqual(len(hush(start(**CHAIN), [0], eyes=[1])[2]), 5)
        self.assertEqual(hush(start(**CHAIN), [0]), hush(start(**CHAIN), [0], eyes=[1, 2]))
        self.assertEqual(len(hush(start(**CHAIN), [0, 1])[2]), 6)
        self.assertEqual(hush(start(**CHAIN), [2])[0], "hushed")
        self.assertEqual(hush(start(**CHAIN), [1], eyes=[0])[0], "hushed")

    def test_a_third_knows_by_a_turn_without_an_answer(self):
        rows = [(None, ("wait", 0), ("wait", 0)), (None, ("sleep", 2), PASS), (None, ("send", 0, 0), PASS), LAST]
        self.assertEqual(hush(start(**UNDER), [0], eyes=[2]), ("tells", "time", rows))

    def test_a_third_that_does_not_know_makes_the_same_call(self):
        """Side 1 writes what side 2 reads, but learns nothing of side 0."""
        moment = start(**{**CHAIN, "rights": [[], [("write", 1)], [("read", 1)]]})
        self.assertEqual(hush(moment, [0], eyes=[2])[0], "hushed")
        self.assertTrue(all(knowing == () for _, _, knowing in hush(moment, [0], eyes=[2])[1]))

    def test_thirds_that_know_stay_veiled(self):
        """A third that knows, but cannot hand it on."""
        moment = start(**{**CHAIN, "pages": [0], "rights": [[("write", 0)], [("read", 0)], []]})
        told = hush(moment, [0], eyes=[2])
        self.assertEqual(told[0], "hushed")
        self.assertEqual({knowing for _, _, knowing in told[1]}, {(), (1,)})
        for loud, quiet, knowing in told[1]:
            for task in (0, *knowing):
                self.assertEqual((loud.answer(task), quiet.answer(task)), (None, None))
        self.assertTrue(any(loud.answer(1) is not None for loud, _, knowing in told[1] if knowing == ()))

    def test_several_thirds_know_ascending(self):
        moment = start(tasks=[(3, 0), (0, 0), (1, 0), (2, 0)], pages=[0], ports=[], locks=0,
                       rights=[[("read", 0)], [("write", 0)], [("read", 0)], []],
                       plan=("slots", [(1, 1), (2, 1), (0, 1), (3, 1)]))
        told = hush(moment, [0], eyes=[2], most=5000)
        self.assertEqual({knowing for _, _, knowing in told[1]}, {(), (0,), (2,), (0, 2)})


class TestByDefinition(unittest.TestCase):
    """[22] itself: all calls of the build, all answers, no veils."""

    def parting(self, parts, ones, eyes, most, depth):
        """After how many ticks the eyes first see unlike things; None if not within so many; "many" moments."""
        start_at = first(Build(**parts))
        side, calls = Side(start_at.build(), ones, eyes), all_calls(parts)
        level, keys = [(start_at, start_at, ())], {}
        for ticks in range(depth):
            after = []
            for loud, quiet, knowing in level:
                if side.harms(loud, quiet):
                    return ticks
                after += self.behind(side, calls, loud, quiet, knowing)
            fresh = {key_of(triple): triple for triple in after if key_of(triple) not in keys}
            keys.update(fresh)
            level = list(fresh.values())
            if len(keys) > most:
                return "many"
        return None

    def behind(self, side, calls, loud, quiet, knowing):
        found = []
        for letter in letters_of(loud):
            knows = tuple(sorted({*knowing, *side.unlike(side.thirds, loud, quiet, letter)}))
            mine, yours = loud.due(letter), quiet.due(letter)
            pairs = [(one, other) for one in calls for other in ([PASS] if yours in side.ones else calls)]
            if mine == yours and mine not in side.ones and mine not in knows:
                pairs = [(call, call) for call in calls]
            if mine is None or yours is None:
                pairs = [(None if mine is None else one, None if yours is None else other) for one, other in pairs]
            for one, other in dict.fromkeys(pairs):
                found.append((loud.tick(letter, one)[1], quiet.tick(letter, other)[1], knows))
        return found

    def test_the_shortest_way(self):
        rng = random.Random(23)
        met = {"tells": 0, "hushed": 0}
        while min(met.values()) < 8:
            parts = twin_parts(rng)
            ones, eyes = some_roles(rng, Build(**parts))
            told = asked(first(Build(**parts)), ones, eyes, 300)
            if told[0] == "hushed" or (told[0] == "tells" and len(told[2]) < 7):
                parted = self.parting(parts, ones, eyes, 300, 7)
                if parted != "many":
                    met[told[0]] += 1
                    self.assertEqual(parted, len(told[2]) - 1 if told[0] == "tells" else None)


def drawn(seed, *words):
    """A number that hangs on these words alone."""
    return zlib.crc32(repr((seed, words)).encode())


def led_by_programs(parts, seed, ones, ones_seed, ticks):
    """What each task sees at each tick; each call hangs on all that its task has seen, and on the tick."""
    moment, seen = first(Build(**parts)), [[] for _ in parts["tasks"]]
    calls = all_calls(parts)
    for tick in range(ticks):
        letters = letters_of(moment)
        letter = letters[drawn(seed, "letter", tick) % len(letters)]
        task, call = moment.due(letter), None
        if task is not None:
            own = ones_seed if parts["tasks"][task][0] in ones else seed
            answer = moment.tick(letter, PASS)[0][1]
            seen[task].append((tick, answer))
            # Mostly what this task could ever do; calls hang on nothing else.
            mine = [c for c in calls if (c[0], c[1:2]) in [(r[0], r[1:]) for r in parts["rights"][task]]] + [PASS, ("sleep", 1)]
            mine = calls if drawn(own, task, "any", seen[task]) % 4 == 0 else mine
            call = mine[drawn(own, task, seen[task]) % len(mine)]
        moment = moment.tick(letter, call)[1]
    return seen


class TestFacts(unittest.TestCase):
    def test_programs_of_hushed_ones(self):
        rng = random.Random(24)
        hushed = 0
        while hushed < 25:
            parts = twin_parts(rng)
            ones, eyes = some_roles(rng, Build(**parts))
            if asked(first(Build(**parts)), ones, eyes, 400)[0] == "hushed":
                hushed += 1
                side = Side(Build(**parts), ones, eyes)
                for seed in range(6):
                    one = led_by_programs(parts, seed, ones, 100 + seed, 40)
                    other = led_by_programs(parts, seed, ones, 200 + seed, 40)
                    self.assertEqual([one[task] for task in side.eyes], [other[task] for task in side.eyes])

    def test_judges_agree(self):
        rng = random.Random(25)
        for _ in range(150):
            build = Build(**twin_parts(rng))
            ones, eyes = some_roles(rng, build)
            moment = later(rng, first(build), rng.choice([0, 3]))
            try:
                told = hush(moment, ones, eyes=eyes, most=150)
            except TooMany:
                continue
            fault = closed_fault if told[0] == "hushed" else tells_fault
            self.assertIsNone(fault(moment, ones, told[-1], eyes=eyes))

    def test_hushed_at_each_later_moment(self):
        rng = random.Random(26)
        met = 0
        while met < 30:
            build = Build(**twin_parts(rng))
            ones, eyes = some_roles(rng, build)
            if asked(first(build), ones, eyes, 150)[0] == "hushed":
                met += 1
                told = asked(later(rng, first(build), 9), ones, eyes, 1500)
                self.assertIn(told[0], ("hushed", "many"))


class TestBounds(unittest.TestCase):
    def test_the_exact_bound(self):
        moment = start(plan=ONE_SLOT)
        self.assertEqual(len(hush(moment, [0], most=5)[1]), 5)
        for most in (1, 4):
            with self.assertRaises(TooMany) as caught:
                hush(moment, [0], most=most)
            self.assertEqual(caught.exception.most, most)

    def test_a_harmed_triple_beyond_the_bound(self):
        """Behind ("take", 0) comes the second triple; the harmed one, behind ("wait", 0), would be the third."""
        moment = start(tasks=[(0, 1), (1, 0)], rights=[[("take", 0)], []])
        rows = [(None, ("wait", 0), PASS), LAST]
        with self.assertRaises(TooMany):
            hush(moment, [0], most=1)
        self.assertEqual(hush(moment, [0], most=2), ("tells", "time", rows))

    def test_two_thousand_without_words(self):
        with self.assertRaises(TooMany) as caught:
            hush(start(**LARGE), [0])
        self.assertEqual(caught.exception.most, 2000)
        told = hush(start(**LARGE), [0], most=5000)
        self.assertEqual(told[0], "hushed")
        self.assertGreater(len(told[1]), 3000)
        self.assertEqual(asked(start(**LARGE), [0], None, len(told[1]))[0], "hushed")
        self.assertEqual(asked(start(**LARGE), [0], None, len(told[1]) - 1), ("many",))

    def test_more_than_five_thousand(self):
        rights = [LARGE["rights"][0], [("write", 1), ("write", 2)]]
        self.assertEqual(asked(start(**{**LARGE, "rights": rights}), [0], None, 5000), ("many",))

    def test_thousands_of_triples(self):
        """Two thirds of one side that know go their ways in both kernels."""
        moment = start(tasks=[(0, 0), (1, 0), (1, 0), (2, 0)], pages=[0, 0], ports=[], locks=0,
                       rights=[[("write", 0)], [("read", 0), ("write", 1)], [("read", 0)], []],
                       plan=("slots", [(0, 1), (1, 1), (2, 1), (3, 1)]))
        told = hush(moment, [0], eyes=[2], most=5000)
        self.assertEqual(told[0], "hushed")
        self.assertGreater(len(told[1]), 1000)
        self.assertEqual(asked(moment, [0], [2], len(told[1]) - 1), ("many",))
        self.assertIsNone(closed_fault(moment, [0], told[1], eyes=[2]))


def is_sides(thing, sides, most):
    """Whether it is an ascending list of one to `most` of these sides."""
    if not (isinstance(thing, list) and 0 < len(thing) <= most and all(type(side) is int for side in thing)):
        return False
    return thing == sorted(set(thing)) and set(thing) <= set(sides)


class TestErrors(unittest.TestCase):
    def test_no_ones(self):
        moment = start(tasks=[(0, 0), (1, 0), (3, 0), (0, 1)])
        wrong = [[0, 1, 3], [1, 0], [0, 0], [2], [4], [-1], [0, 2], [True], [False], (0,), {0: 1}, "0", [0, 1, 3, 3]]
        for ones in [*wrong, *odd_values()]:
            if not is_sides(ones, [0, 1, 3], 2):
                with self.subTest(f"{ones!r}"), self.assertRaises(NoOnes):
                    hush(moment, ones, eyes=7, most=0)
        for ones in ([0], [1], [3], [0, 1], [0, 3], [1, 3]):
            with self.assertRaises(NoMost):
                hush(moment, ones, most=0)

    def test_no_eyes(self):
        moment = start(tasks=[(0, 0), (1, 0), (3, 0), (0, 1)])
        wrong = [[], [1], [1, 3], [3, 0], [0, 0], [2], [0, 1], [False], (0,), [0, 3, 3], "3", [0.0]]
        for eyes in [*wrong, *odd_values()]:
            if eyes is not None and not is_sides(eyes, [0, 3], 2):
                with self.subTest(f"{eyes!r}"), self.assertRaises(NoEyes):
                    hush(moment, [1], eyes=eyes, most=0)
        for eyes in (None, [0], [3], [0, 3]):
            with self.assertRaises(NoMost):
                hush(moment, [1], eyes=eyes, most=0)

    def test_no_most(self):
        build = Build(**some(plan=ONE_SLOT))
        for most in [*odd_values(), 5001, 0, -1, True]:
            if repr(most) not in [str(number) for number in range(1, 5001)]:
                with self.subTest(f"{most!r}"):
                    with self.assertRaises(NoMost):
                        hush(first(build), [0], most=most)
                    with self.assertRaises(NoMost):
                        hushed_sets(build, most=most)
                    with self.assertRaises(NoMost):
                        learns(build, most=most)
        self.assertEqual(hush(first(build), [0], most=5000)[0], "hushed")


class TestValues(unittest.TestCase):
    def test_lists_are_new(self):
        for moment, ones in ((start(**READER), [0]), (start(**READER), [1]), (start(**CHAIN), [0])):
            told = hush(moment, ones)
            self.assertTrue(has_own_lists(told))
            kept = copy.copy(told[-1])
            spoil(told)
            self.assertEqual(asked(moment, ones)[0], told[0])
            self.assertEqual(len(hush(moment, ones)[-1]), len(kept))
        for ask in (hushed_sets, learns):
            told = ask(Build(**some(**CHAIN)))
            self.assertTrue(has_own_lists(told))
            kept = copy.deepcopy(told)
            spoil(told)
            self.assertEqual(ask(Build(**some(**CHAIN))), kept)

    def test_nothing_that_is_handed_in_is_changed(self):
        moment, ones, eyes = start(**CHAIN), [0], [2]
        hush(moment, ones, eyes=eyes)
        self.assertEqual((ones, eyes), ([0], [2]))
        self.assertTrue(moment == start(**CHAIN))


class TestSets(unittest.TestCase):
    def test_by_hand(self):
        build = Build(**some(**READER))
        self.assertEqual(learns(build), [(0, 1)])
        self.assertEqual(hushed_sets(build), [[1]])
        build = Build(**some(**CHAIN))
        self.assertEqual(learns(build), [(0, 1), (0, 2), (1, 2)])
        self.assertEqual(hushed_sets(build), [[1, 2], [2]])

    def test_what_is_learnt_is_not_always_handed_on(self):
        build = Build(**some(**{**CHAIN, "rights": [[("write", 0)], [("read", 0)], []]}))
        self.assertEqual(learns(build), [(0, 1)])
        self.assertEqual(hushed_sets(build), [[0, 1], [1], [1, 2], [2]])

    def expected(self, build, most):
        """Both lists, ask by ask; None where an ask has too many triples."""
        sides = build.sides()
        lists = [[side for at, side in enumerate(sides) if bits >> at & 1] for bits in range(1, 2 ** len(sides) - 1)]
        sets = [asked(first(build), ones, None, most)[0] for ones in sorted(lists)]
        pairs = [(a, b) for a in sides for b in sides if a != b]
        told = [asked(first(build), [a], [b], most)[0] for a, b in pairs]
        return (None if "many" in sets else [ones for ones, word in zip(sorted(lists), sets) if word == "hushed"],
                None if "many" in told else [pair for pair, word in zip(pairs, told) if word == "tells"])

    def test_against_hush(self):
        rng = random.Random(27)
        met = {True: 0, False: 0}
        for _ in range(120):
            build = Build(**twin_parts(rng))
            for ask, expected in zip((hushed_sets, learns), self.expected(build, 150)):
                met[expected is None] += 1
                if expected is None:
                    with self.assertRaises(TooMany) as caught:
                        ask(build, most=150)
                    self.assertEqual(caught.exception.most, 150)
                else:
                    self.assertEqual(ask(build, most=150), expected)
        self.assertGreater(min(met.values()), 20)

    def test_facts(self):
        """[a] is hushed exactly if it tells no other side anything."""
        rng = random.Random(28)
        met = 0
        while met < 25:
            build = Build(**twin_parts(rng))
            try:
                told, sets = learns(build, most=300), hushed_sets(build, most=300)
            except TooMany:
                continue
            met += 1
            for side in build.sides():
                self.assertEqual([side] in sets, side not in [a for a, _ in told])

    def test_two_thousand_without_words(self):
        for ask in (hushed_sets, learns):
            with self.assertRaises(TooMany) as caught:
                ask(Build(**some(**LARGE)))
            self.assertEqual(caught.exception.most, 2000)
        self.assertEqual(hushed_sets(Build(**some(**LARGE)), most=5000), [[0], [1]])
        self.assertEqual(learns(Build(**some(**LARGE)), most=5000), [])


if __name__ == "__main__":
    unittest.main()
