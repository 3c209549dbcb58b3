"""[3], [4], [5], [36], [37], [39], [40]: what the ones tell beside doors."""

import copy
import itertools
import random
import unittest
import zlib

from hushkernel.builds import Build
from hushkernel.doorjudges import beside_fault, kept_fault
from hushkernel.doors import kept, least_doors, through
from hushkernel.errors import KernelError, NoDoors, NoEyes, NoMost, NoOnes, TooMany
from hushkernel.hushes import hush
from hushkernel.judges import closed_fault
from hushkernel.moments import Moment, first

from tests.helper import (DoorSide, all_calls, all_rights, has_own_lists, key_of, later, led, letters_of, odd_values, plain_hush,
                          plain_kept, some, some_parts, some_roles, spoil, start, twin_parts)

PASS = ("pass",)
LAST = (None, None, None)
PAGE = ("write", 0)
PORT = ("send", 0)
SLOTS = ("slots", [(0, 1), (1, 1)])
# Task 0 writes what task 1 reads.
READER = dict(tasks=[(0, 0), (1, 0)], pages=[0], ports=[], locks=0, rights=[[PAGE], [("read", 0)]], plan=SLOTS)
# Task 0 sends to task 1, which takes.
POST = dict(tasks=[(0, 0), (1, 0)], pages=[], ports=[1], locks=0, rights=[[PORT], [("take", 0)]], plan=SLOTS)
# Side 1 reads what side 0 writes, and writes what side 2 reads.
CHAIN = dict(tasks=[(0, 0), (1, 0), (2, 0)], pages=[0, 0], ports=[], locks=0, plan=("slots", [(0, 1), (1, 1), (2, 1)]),
             rights=[[PAGE], [("read", 0), ("write", 1)], [("read", 1)]])
# Some thousand triples.
LARGE = dict(tasks=[(0, 0), (1, 0)], pages=[0, 0], ports=[2], locks=0, outside=(0, 4), rights=[[("take", 0)], []], plan=SLOTS)


def all_doors(parts):
    return [right for right in all_rights(parts) if right[0] in ("send", "write")]


def some_doors(rng, parts):
    every = all_doors(parts)
    return sorted(rng.sample(every, rng.choice([1, 1, len(every)])))


def door_parts(rng):
    """The parts of a small build with doors; the ones, who mostly have some of them, and the eyes."""
    count = rng.choice([2, 2, 3, 3, 4])
    sides = rng.sample(range(4), min(count, rng.choice([2, 3])))
    sides += [rng.choice(sides) for _ in range(count - len(sides))]
    pages = rng.choice([[], [0], [0], [1], [0, 0]])
    ports = rng.choice([[], [1], [2]]) if pages else [1]
    parts = some(
        tasks=[(side, rng.choice([0, 0, 1])) for side in sides], pages=pages, ports=ports, locks=0,
        lines=[rng.choice([None, 0]) for _ in pages], costs=(1, rng.choice([0, 0, 1]), rng.choice([0, 0, 0, 1])),
        outside=(0, rng.choice([1, 2])) if ports and rng.random() < 0.3 else None, pad=rng.random() < 0.2,
    )
    ones, eyes = some_roles(rng, Build(**parts))
    for task, (side, _) in enumerate(parts["tasks"]):
        kinds = ("write", "send", "write", "send", "take", "hand") if side in ones else ("read", "take", "read", "take", "send", "write")
        extra = [right for kind in kinds for right in all_rights(parts) if right[0] == kind]
        parts["rights"][task] = sorted({rng.choice(extra) for _ in range(rng.choice([1, 1, 1, 2]) if side in ones else rng.choice([0, 1, 1]))})
    parts["plan"] = ("levels", rng.randint(1, 2))
    if rng.random() < 0.8:
        parts["plan"] = ("slots", [(task, sum(parts["costs"])) for task in range(count)])
    return parts, ones, eyes


def chain_parts(rng):
    """The parts of a build in which side 1 learns something of side 0, and may hand it on to side 2."""
    parts = some(**copy.deepcopy(CHAIN))
    parts["rights"][1] = [("read", 0), *rng.choice([[], [("write", 1)], [("strip", 2)]])]
    parts["rights"][2] = rng.choice([[], [("read", 1)]])
    if rng.random() < 0.3:
        parts["ports"] = [1]
        parts["rights"][0] = [PORT, PAGE]
    return parts, [0], rng.choice([[2], [2], [1]])


def asked(moment, ones, doors, eyes=None, most=2000):
    """What `kept` returns, the triples by their keys; ("many",) if there are too many."""
    try:
        told = kept(moment, ones, doors, eyes=eyes, most=most)
    except TooMany as error:
        assert error.most == most
        return ("many",)
    return ("kept", [key_of(triple) for triple in told[1]]) if told[0] == "kept" else told


class TestAgainstPlainSearch(unittest.TestCase):
    def compare(self, seed, builds, most, drawn_parts=door_parts):
        rng = random.Random(seed)
        met = {"many": 0, "kept": 0, "answer": 0, "time": 0, "thirds": 0, "through": 0, "letters": 0}
        for _ in range(builds):
            parts, ones, eyes = drawn_parts(rng)
            doors = some_doors(rng, parts)
            moment = later(rng, first(Build(**parts)), rng.choice([0, 0, 1, 6]))
            expected, many = plain_kept(moment, ones, doors, eyes, most)
            self.assertEqual(asked(moment, ones, doors, eyes, most), expected)
            met[expected[1] if expected[0] == "tells" else expected[0]] += 1
            if expected[0] == "kept":
                met["thirds"] += any(key[2] for key in expected[1])
                met["letters"] += parts["outside"] is not None
                met["through"] += plain_hush(moment, ones, eyes, most)[0][0] == "tells"
            if expected[0] != "many":
                # The harmed triple itself may be the one with the number most + 1.
                self.assertEqual(asked(moment, ones, doors, eyes, max(many, 1)), expected)
                if many > 1:
                    self.assertEqual(asked(moment, ones, doors, eyes, many - 1), ("many",))
        return met

    def test_many_builds(self):
        met = self.compare(111, 250, 120)
        for outcome in ("many", "kept", "answer", "time", "letters"):
            self.assertGreater(met[outcome], 5, met)

    def test_some_builds_with_more_triples(self):
        met = self.compare(112, 60, 700)
        for outcome in ("kept", "answer", "time", "through"):
            self.assertGreater(met[outcome], 1, met)

    def test_thirds_that_know(self):
        met = self.compare(123, 30, 900, chain_parts)
        for outcome in ("kept", "answer", "thirds"):
            self.assertGreater(met[outcome], 1, met)


class TestSpoken(unittest.TestCase):
    def test_a_page(self):
        moment = start(**READER)
        self.assertEqual(kept(moment, [0], [PAGE])[0], "kept")
        self.assertEqual(kept(moment, [1], [PAGE])[0], "kept")

    def test_another_door(self):
        """What is written is not spoken, where the page is no door."""
        moment = start(**{**READER, "ports": [1]})
        write, read = ("write", 0, 1), (None, ("read", 0), ("read", 0))
        same = (None, PASS, PASS)
        told = kept(moment, [0], [PORT])
        self.assertEqual(told[:2], ("tells", "answer"))
        # In the order of the calls: in the first kernel 0 is written, which changes nothing, in the second one 1.
        self.assertEqual(told[2][:2], [(None, ("write", 0, 0), write), read])
        self.assertEqual((len(told[2]), told[2][3]), (4, LAST))
        self.assertIsNone(beside_fault(moment, [0], [PORT], [(None, write, PASS), read, same, LAST]))
        self.assertEqual(beside_fault(moment, [0], [PAGE], [(None, write, PASS), read, same, LAST]), ("spoken", 0))

    def test_a_letter(self):
        self.assertEqual(kept(start(**POST), [0], [PORT])[0], "kept")
        self.assertEqual(kept(start(**{**POST, "pages": [0]}), [0], [PAGE])[0], "tells")

    def test_a_letter_that_is_taken_is_not_spoken(self):
        moment = start(**{**POST, "rights": [[PORT, ("take", 0)], [("take", 0)]]})
        told = kept(moment, [0], [PORT])
        self.assertEqual(told[:2], ("tells", "answer"))
        # The same letter is sent in both, and taken again in one of them, behind which the other task finds none.
        self.assertEqual(told[2][0][1:], (("send", 0, 0),) * 2)
        _, one, other = told[2][2]
        self.assertNotEqual(one, other)
        self.assertTrue({one[0], other[0]} & {"take", "wait"})
        # So it is where the letter is one of the other task.
        moment = start(**{**POST, "rights": [[("take", 0)], [PORT, ("take", 0)]]})
        self.assertEqual(kept(moment, [0], [PORT])[0], "tells")

    def test_a_call_that_is_answered_no_is_not_spoken(self):
        """The port is full: what is sent in one kernel alone changes nothing, and nothing is spoken."""
        moment = led(start(**POST), ("send", 0, 0))[1]
        side = DoorSide(moment.build(), [0], [PORT])
        full = led(moment, PASS)[1]
        self.assertEqual(full.ports(), [[0]])
        self.assertIsNone(side.spoken(full, None, ("send", 0, 1)))
        rows = [(None, ("send", 0, 1), PASS), (None, PASS, PASS), LAST]
        self.assertEqual(beside_fault(full, [0], [PORT], rows), ("same",))
        self.assertEqual(beside_fault(start(**POST), [0], [PORT], rows), ("spoken", 0))
        # Without the right, too.
        moment = start(**{**POST, "rights": [[], [("take", 0)]]})
        self.assertEqual(beside_fault(moment, [0], [PORT], rows), ("same",))
        moment = start(**{**READER, "rights": [[], [("read", 0)]]})
        rows = [(None, ("write", 0, 1), PASS), (None, PASS, PASS), LAST]
        self.assertEqual(beside_fault(moment, [0], [PAGE], rows), ("same",))

    def test_the_port_tells_whether_it_is_full(self):
        """A letter that is sent is the same in both; so is whether the other task can still send."""
        moment = start(**{**POST, "rights": [[PORT], [PORT]]})
        self.assertEqual(hush(moment, [0])[0], "tells")
        self.assertEqual(kept(moment, [0], [PORT])[0], "kept")

    def test_another_value_is_another_thing(self):
        moment = start(**READER)
        rows = [(None, ("write", 0, 0), ("write", 0, 1)), (None, ("read", 0), ("read", 0)), (None, PASS, PASS), LAST]
        self.assertEqual(beside_fault(moment, [0], [PAGE], rows), ("spoken", 0))

    def test_a_page_that_is_read_is_not_spoken(self):
        """By the cache line the other task learns of it, in time."""
        moment = start(pages=[0, 0], ports=[], locks=0, lines=[0, 0], costs=(1, 1, 0), plan=("levels", 1),
                       rights=[[("read", 0)], [("read", 1)]])
        for doors in ([PAGE], [PAGE, ("write", 1)]):
            told = kept(moment, [0], doors)
            self.assertEqual(told[:2], ("tells", "time"))

    def test_a_page_that_is_spoken_to_is_in_its_line(self):
        """The other page of the line is not any more, which the others see in time: but in both kernels alike."""
        parts = dict(pages=[0, 0], ports=[], locks=0, lines=[0, 0], costs=(1, 1, 0), tasks=[(0, 1), (1, 0)],
                     plan=("slots", [(0, 2), (1, 3)]), rights=[[PAGE], [("read", 1)]])
        self.assertEqual(hush(start(**parts), [0])[:2], ("tells", "time"))
        self.assertEqual(kept(start(**parts), [0], [PAGE])[0], "kept")
        told = kept(start(**parts), [0], [("write", 1)])
        self.assertEqual(told[:2], ("tells", "time"))
        # As soon as the ones can read, they change the line without speaking.
        parts["rights"] = [[("read", 0), PAGE], [("read", 1)]]
        self.assertEqual(kept(start(**parts), [0], [PAGE])[:2], ("tells", "time"))
        self.assertEqual(kept(start(**parts, pad=True), [0], [PAGE], most=5000)[0], "kept")

    def test_time_is_beside(self):
        moment = start(tasks=[(0, 1), (1, 0)], pages=[0], ports=[1], locks=0, rights=[[PORT, PAGE], []])
        told = kept(moment, [0], [PORT, PAGE])
        self.assertEqual(told[:2], ("tells", "time"))
        self.assertEqual(len(told[2]), 2)

    def test_a_letter_to_another_task_of_the_ones_is_spoken(self):
        """Side 0 has two tasks; a letter between them is let through, or left out, as any other one."""
        parts = dict(tasks=[(0, 0), (0, 0), (1, 0)], pages=[], ports=[1], locks=0, plan=("slots", [(0, 1), (1, 1), (2, 1)]),
                     rights=[[PORT], [("take", 0)], [("take", 0)]])
        moment = start(**parts)
        rows = [(None, ("send", 0, 0), PASS), (None, ("take", 0), PASS), LAST]
        self.assertEqual(beside_fault(moment, [0], [PORT], rows), ("spoken", 0))
        rows = [(None, ("send", 0, 0), ("send", 0, 0)), (None, ("take", 0), PASS), (None, ("take", 0), ("take", 0)),
                (None, PASS, PASS), (None, PASS, PASS), LAST]
        self.assertIsNone(beside_fault(moment, [0], [PORT], rows))
        self.assertEqual(kept(moment, [0], [PORT])[0], "tells")

    def test_which_task_speaks_makes_no_difference(self):
        """Task 0 speaks in the first kernel, task 1 in the second one, in one tick, the same."""
        parts = dict(tasks=[(0, 0), (0, 0), (1, 0)], pages=[0], ports=[], locks=0, plan=("levels", 1), rights=[[PAGE], [PAGE], []])
        moment = start(**parts)
        one, other = moment.veiled([0, 1]), led(moment, PASS)[1].veiled([0, 1])
        self.assertEqual((one.due(), other.due()), (0, 1))
        faults = {}
        for write in (("write", 0, 0), ("write", 0, 1)):
            alike = (led(one, write)[1].veiled([0, 1]), led(other, write)[1].veiled([0, 1]), ())
            behind = {key_of(after) for _, _, _, after in DoorSide(moment.build(), [0], [PAGE]).behind(one, other, ())}
            self.assertIn(key_of(alike), behind)
            faults[write] = kept_fault(moment, [0], [PAGE], [(one, other, ()), (one, one, ()), alike])
        # Both speak first of all: without what comes of it, the list is open there.
        self.assertEqual(kept_fault(moment, [0], [PAGE], [(one, other, ()), (one, one, ())]),
                         ("open", 0, None, ("write", 0, 0), ("write", 0, 0)))
        self.assertEqual(faults[("write", 0, 0)], ("open", 0, None, ("write", 0, 1), ("write", 0, 1)))
        self.assertEqual(faults[("write", 0, 1)], ("open", 0, None, ("write", 0, 0), ("write", 0, 0)))

    def test_a_turn_in_one_kernel_alone(self):
        """A task of the ones that has its turn in one kernel alone makes no call there with which it speaks."""
        moment = start(pages=[0], ports=[1], locks=0, rights=[[("take", 0), PAGE], []], plan=("slots", [(0, 1)]))
        one, other = led(moment, PASS)[1].veiled([0]), led(moment, ("wait", 0))[1].veiled([0])
        self.assertEqual((one.due(), other.due()), (0, None))
        told = kept(moment, [0], [PAGE])
        self.assertEqual(told[0], "kept")
        alone = [triple for triple in told[1] if triple[0].due() != triple[1].due()]
        self.assertGreater(len(alone), 4)
        for one, other, _ in told[1]:
            self.assertEqual(one.pages(), other.pages())
        # Where the page is no door, it is written in that kernel.
        self.assertTrue(any(one.pages() != other.pages() for one, other, _ in kept(moment, [0], [PORT])[1]))

    def test_letters_from_outside_come_to_a_door_as_well(self):
        moment = start(**{**POST, "outside": (0, 4)})
        self.assertEqual(kept(moment, [0], [PORT], most=5000)[0], "kept")
        moment = start(**{**POST, "rights": [[("take", 0)], [("take", 0)]], "outside": (0, 4)})
        told = kept(moment, [0], [PORT])
        self.assertEqual(told[:2], ("tells", "answer"))
        self.assertIn(told[2][0][0], (0, 1))


class TestThirds(unittest.TestCase):
    def test_what_goes_through_the_door_may_be_handed_on(self):
        """What a third learns by the door is the same in both, so that it never knows."""
        moment = start(**CHAIN)
        self.assertEqual(hush(moment, [0], eyes=[2])[0], "tells")
        told = kept(moment, [0], [PAGE], eyes=[2], most=5000)
        self.assertEqual(told[0], "kept")
        self.assertEqual({knowing for _, _, knowing in told[1]}, {()})

    def test_a_third_that_knows_hands_on(self):
        """Its own page is a door, but the third is none of the ones."""
        moment = start(**CHAIN)
        told = kept(moment, [0], [("write", 1)], eyes=[2], most=5000)
        self.assertEqual(told[:2], ("tells", "answer"))
        self.assertIsNone(beside_fault(moment, [0], [("write", 1)], told[2], eyes=[2]))
        self.assertEqual(kept(moment, [0, 1], [("write", 1)], most=5000)[0], "kept")
        self.assertEqual(kept(moment, [0, 1], [PAGE], most=5000)[0], "tells")

    def test_a_third_that_knows_but_cannot_hand_on(self):
        moment = start(**{**CHAIN, "rights": [[PAGE], [("read", 0)], []]})
        told = kept(moment, [0], [("write", 1)], eyes=[2], most=5000)
        self.assertEqual(told[0], "kept")
        self.assertEqual({knowing for _, _, knowing in told[1]}, {(), (1,)})
        for one, other, knowing in told[1]:
            for task in (0, *knowing):
                self.assertEqual((one.answer(task), other.answer(task)), (None, None))


class TestOrder(unittest.TestCase):
    def test_all_triples_in_order(self):
        """Task 0 alone has turns, with one page that is a door: writes are the same in both, all else is any."""
        moment = start(pages=[0], ports=[], locks=0, rights=[[PAGE], []], plan=("slots", [(0, 1)]))
        told = kept(moment, [0], [PAGE])
        shapes = [(one.pages()[0], one.status(0), other.pages()[0], other.status(0)) for one, other, _ in told[1]]
        ready, asleep, two = ("ready",), ("asleep", 1), ("asleep", 2)
        self.assertEqual(told[0], "kept")
        # Both write 0, which changes nothing but how long the kernel is busy; both write 1; sleeps and passes, each with each.
        self.assertEqual(shapes[:11], [
            (0, ready, 0, ready), (0, ready, 0, ready), (1, ready, 1, ready),
            (0, asleep, 0, asleep), (0, asleep, 0, two), (0, asleep, 0, ready), (0, two, 0, asleep), (0, two, 0, two),
            (0, two, 0, ready), (0, ready, 0, asleep), (0, ready, 0, two),
        ])
        self.assertTrue(all(isinstance(part, Moment) for triple in told[1] for part in triple[:2]))

    def test_without_a_door_of_the_ones_any_calls_stand_beside_any(self):
        """Also where no write is a door: in both kernels each call worth trying."""
        moment = start(pages=[0], ports=[1], locks=0, rights=[[PAGE], []], plan=("slots", [(0, 1)]))
        told = kept(moment, [0], [PORT])
        pairs = {(one.pages()[0], other.pages()[0]) for one, other, _ in told[1]}
        self.assertEqual(pairs, {(0, 0), (0, 1), (1, 0), (1, 1)})

    def test_the_first_triple_is_veiled(self):
        moment = led(start(**READER), ("write", 0, 1))[1]
        triple = kept(moment, [0], [PAGE])[1][0]
        self.assertTrue(triple[0] == moment.veiled([0]) and triple[1] == moment.veiled([0]) and triple[2] == ())


class TestBounds(unittest.TestCase):
    def test_the_exact_bound(self):
        moment = start(**READER)
        many = len(kept(moment, [0], [PAGE])[1])
        self.assertEqual(len(kept(moment, [0], [PAGE], most=many)[1]), many)
        for most in (1, many - 1):
            with self.assertRaises(TooMany) as caught:
                kept(moment, [0], [PAGE], most=most)
            self.assertEqual(caught.exception.most, most)

    def test_two_thousand_without_words(self):
        moment = start(**LARGE)
        with self.assertRaises(TooMany) as caught:
            kept(moment, [0], [PAGE])
        self.assertEqual(caught.exception.most, 2000)
        told = kept(moment, [0], [PAGE], most=5000)
        self.assertEqual(told[0], "kept")
        self.assertGreater(len(told[1]), 2000)
        self.assertIsNone(kept_fault(moment, [0], [PAGE], told[1]))
        self.assertEqual(asked(moment, [0], [PAGE], None, len(told[1]) - 1), ("many",))


class TestByDefinition(unittest.TestCase):
    """[36] itself: all calls of the build in both kernels, all answers, no veils."""

    def parting(self, parts, ones, doors, eyes, most, depth):
        """After how many ticks the eyes first see unlike things; None if not within so many; "many" moments."""
        start_at = first(Build(**parts))
        side, calls = DoorSide(start_at.build(), ones, doors, eyes), all_calls(parts)
        level, keys = [(start_at, start_at, ())], {}
        for ticks in range(depth):
            after = []
            for one, other, knowing in level:
                if side.harms(one, other):
                    return ticks
                after += self.behind(side, calls, one, other, knowing)
            fresh = {key_of(triple): triple for triple in after if key_of(triple) not in keys}
            keys.update(fresh)
            level = list(fresh.values())
            if len(keys) > most:
                return "many"
        return None

    def behind(self, side, calls, one, other, knowing):
        found = []
        for letter in letters_of(one):
            knows = tuple(sorted({*knowing, *side.unlike(side.thirds, one, other, letter)}))
            mine, yours = one.due(letter), other.due(letter)
            moments = [{call: at.tick(letter, call)[1] for call in (calls if turn is not None else [None])}
                       for at, turn in ((one, mine), (other, yours))]
            spoken = [{call: side.spoken(at, letter, call) for call in behind} for at, behind in zip((one, other), moments)]
            bound = mine is not None and mine == yours and mine not in side.ones and mine not in knows
            for call, after in moments[0].items():
                for reply, last in moments[1].items():
                    if (call == reply or not bound) and spoken[0][call] == spoken[1][reply]:
                        found.append((after, last, knows))
        return found

    def test_the_shortest_way(self):
        rng = random.Random(113)
        met = {"tells": 0, "kept": 0}
        while min(met.values()) < 5:
            parts, ones, eyes = door_parts(rng)
            parts["rights"] = [[right for right in row if right[0] != "hand"] for row in parts["rights"]]
            doors = some_doors(rng, parts)
            told = asked(first(Build(**parts)), ones, doors, eyes, 300)
            if told[0] == "kept" or (told[0] == "tells" and len(told[2]) < 6):
                parted = self.parting(parts, ones, doors, eyes, 120, 6)
                if parted != "many":
                    met[told[0]] += 1
                    self.assertEqual(parted, len(told[2]) - 1 if told[0] == "tells" else None)


def drawn(seed, *words):
    """A number that hangs on these words alone."""
    return zlib.crc32(repr((seed, words)).encode())


class TestFacts(unittest.TestCase):
    def test_programs_of_ones_that_are_kept(self):
        """The others see the same up to and in the first tick in which unlike things are spoken, whatever programs do."""
        rng = random.Random(114)
        met = {"runs": 0, "spoken": 0, "all": 0}
        while met["runs"] < 150:
            parts, ones, eyes = door_parts(rng)
            doors = some_doors(rng, parts)
            if asked(first(Build(**parts)), ones, doors, eyes, 400)[0] != "kept":
                continue
            side = DoorSide(Build(**parts), ones, doors, eyes)
            for seed in range(6):
                one, said = self.run_by(parts, seed, ones, 100 + seed, side)
                other, heard = self.run_by(parts, seed, ones, 200 + seed, side)
                unlike = [tick for tick in range(30) if said[tick] != heard[tick]]
                end = unlike[0] + 1 if unlike else 30
                self.assertEqual(one[:end], other[:end])
                met["runs"] += 1
                met["all"] += not unlike
                met["spoken"] += any(said[:end - 1])
        self.assertGreater(min(met.values()), 5, met)

    def run_by(self, parts, seed, ones, ones_seed, side):
        """What the eyes see in each tick, and what is spoken; each call hangs on all that its task has seen, and the tick."""
        moment, seen, told, said = first(Build(**parts)), [[] for _ in parts["tasks"]], [], []
        for tick in range(30):
            letters = letters_of(moment)
            letter = letters[drawn(seed, "letter", tick) % len(letters)]
            task, call = moment.due(letter), None
            if task is not None:
                own = ones_seed if parts["tasks"][task][0] in ones else seed
                seen[task].append((tick, moment.tick(letter, PASS)[0][1]))
                mine = all_calls(parts)
                likely = [c for c in mine if (c[0], c[1:2]) in [(r[0], r[1:]) for r in parts["rights"][task]]] + [PASS, PASS]
                mine = mine if drawn(own, task, "any", seen[task]) % 5 == 0 else likely
                call = mine[drawn(own, task, seen[task]) % len(mine)]
                if task in side.ones and drawn(seed, "same", tick) % 2:
                    # Often both speak alike.
                    call = likely[drawn(seed, tick) % len(likely)]
            said.append(None if call is None else side.spoken(moment, letter, call))
            told.append(side.sees(task, moment, letter) if task in side.eyes else None)
            moment = moment.tick(letter, call)[1]
        return told, said

    def test_hushed_ones_are_kept_to_any_doors(self):
        rng = random.Random(115)
        met = 0
        while met < 40:
            parts, ones, eyes = door_parts(rng)
            moment = later(rng, first(Build(**parts)), rng.choice([0, 0, 4]))
            try:
                if hush(moment, ones, eyes=eyes, most=200)[0] != "hushed":
                    continue
            except TooMany:
                continue
            met += 1
            for door in all_doors(parts):
                self.assertIn(asked(moment, ones, [door], eyes, 3000)[0], ("kept", "many"))

    def test_kept_to_all_doors_that_contain_these(self):
        rng = random.Random(116)
        met = 0
        while met < 40:
            parts, ones, eyes = door_parts(rng)
            moment, every = first(Build(**parts)), all_doors(parts)
            doors = some_doors(rng, parts)
            if len(every) > len(doors) and asked(moment, ones, doors, eyes, 300)[0] == "kept":
                met += 1
                more = sorted({*doors, *rng.sample(every, rng.randint(1, len(every)))})
                self.assertIn(asked(moment, ones, more, eyes, 3000)[0], ("kept", "many"))

    def test_kept_at_each_later_moment(self):
        rng = random.Random(117)
        met = 0
        while met < 40:
            parts, ones, eyes = door_parts(rng)
            moment, doors = first(Build(**parts)), some_doors(rng, parts)
            if asked(moment, ones, doors, eyes, 150)[0] == "kept":
                met += 1
                self.assertIn(asked(later(rng, moment, rng.randint(1, 12)), ones, doors, eyes, 2000)[0], ("kept", "many"))

    def test_all_other_sides_as_eyes_or_each_alone(self):
        rng = random.Random(118)
        met = {True: 0, False: 0}
        while min(met.values()) < 8:
            parts, ones, _ = door_parts(rng)
            others = [side for side in Build(**parts).sides() if side not in ones]
            moment, doors = first(Build(**parts)), some_doors(rng, parts)
            words = [asked(moment, ones, doors, eyes, 400)[0] for eyes in [None, *[[side] for side in others]]]
            if len(others) > 1 and "many" not in words:
                self.assertEqual(words[0] == "kept", words[1:] == ["kept"] * len(others))
                met[words[0] == "kept"] += 1

    def test_judges_agree(self):
        rng = random.Random(119)
        for _ in range(150):
            parts, ones, eyes = door_parts(rng)
            doors = some_doors(rng, parts)
            moment = later(rng, first(Build(**parts)), rng.choice([0, 3]))
            try:
                told = kept(moment, ones, doors, eyes=eyes, most=150)
            except TooMany:
                continue
            fault = kept_fault if told[0] == "kept" else beside_fault
            self.assertIsNone(fault(moment, ones, doors, told[-1], eyes=eyes))


def no_doors():
    """Things that are no doors of a build with two pages and one port."""
    wrong = [[], [("send", 1)], [("write", 2)], [("read", 0)], [("take", 0)], [("lock", 0)], [("hand", 0)], [("seek", 0)],
             [PAGE, PAGE], [PAGE, PORT], [("write", 1), PAGE], [PORT, PAGE, ("write", 1), ("write", 1)], [PORT, None],
             [("send", True)], [("write", False)], [["send", 0]], [("send",)], [("send", 0, 0)], [("write", 0, 1)], (PORT,), PORT, "send",
             [("Send", 0)], [("send", -1)], [("send", "0")], [("send", None)], {PORT: 1}, [PORT, PORT], [(PORT,)], [[PORT]]]
    return [*wrong, *odd_values()]


class TestErrors(unittest.TestCase):
    def setUp(self):
        self.moment = start(tasks=[(0, 0), (1, 0), (3, 0)], pages=[0, 1], ports=[1], locks=1, disk=2)

    def raised(self, ask, *args, **words):
        try:
            ask(self.moment, *args, **words)
        except KernelError as error:
            return type(error)
        return None

    def test_no_ones(self):
        good = [[0], [1], [3], [0, 1], [0, 3], [1, 3]]
        for ask in (kept, through):
            for ones in [*odd_values(), [0, 1, 3], [2], [True], (0,), [1, 0]]:
                if repr(ones) not in [repr(row) for row in good]:
                    with self.subTest(f"{ones!r}"):
                        self.assertIs(self.raised(ask, ones, None, eyes=7, most=0), NoOnes)
                        with self.assertRaises(NoOnes):
                            least_doors(self.moment.build(), ones, most=0)

    def test_no_doors(self):
        for doors in no_doors():
            for ask in (kept, through):
                with self.subTest(f"{doors!r}"):
                    self.assertIs(self.raised(ask, [1], doors, eyes=7, most=0), NoDoors)
        every = [PORT, PAGE, ("write", 1)]
        for many in (1, 2, 3):
            for doors in itertools.combinations(every, many):
                self.assertIs(self.raised(kept, [1], list(doors), eyes=7, most=0), NoEyes)

    def test_no_doors_of_a_build_without_any(self):
        self.moment = start(pages=[], ports=[], locks=0)
        for doors in ([PORT], [PAGE], [], [PORT, PAGE]):
            self.assertIs(self.raised(kept, [1], doors), NoDoors)

    def test_no_eyes(self):
        for eyes in [*odd_values(), [], [1], [1, 3], [3, 0], [2], [False]]:
            if eyes is not None and repr(eyes) not in ("[0]", "[3]", "[0, 3]"):
                for ask in (kept, through):
                    with self.subTest(f"{eyes!r}"):
                        self.assertIs(self.raised(ask, [1], [PAGE], eyes=eyes, most=0), NoEyes)
        for eyes in (None, [0], [3], [0, 3]):
            self.assertIs(self.raised(kept, [1], [PAGE], eyes=eyes, most=0), NoMost)

    def test_no_most(self):
        for most in [*odd_values(), 5001, 0, -1, True]:
            if not (type(most) is int and 1 <= most <= 5000):
                with self.subTest(f"{most!r}"):
                    self.assertIs(self.raised(kept, [1], [PAGE], most=most), NoMost)
                    self.assertIs(self.raised(through, [1], [PAGE], most=most), NoMost)
                    with self.assertRaises(NoMost):
                        least_doors(self.moment.build(), [1], most=most)
        self.moment = start(**READER)
        self.assertIsNone(self.raised(kept, [0], [PAGE], most=5000))


class TestLeast(unittest.TestCase):
    def least(self, ones=(0,), most=2000, **changes):
        return least_doors(Build(**some(**{**READER, **changes})), list(ones), most=most)

    def test_hushed(self):
        self.assertEqual(self.least([1]), [[]])
        self.assertEqual(self.least(rights=[[PAGE], []]), [[]])

    def test_one_door(self):
        self.assertEqual(self.least(), [[PAGE]])
        self.assertEqual(least_doors(Build(**some(**POST)), [0]), [[PORT]])

    def test_two_doors(self):
        told = self.least(pages=[0, 0], rights=[[PAGE, ("write", 1)], [("read", 0), ("read", 1)]], most=5000)
        self.assertEqual(told, [[PAGE, ("write", 1)]])
        told = self.least(pages=[0, 0], rights=[[PAGE, ("write", 1)], [("read", 1)]], most=5000)
        self.assertEqual(told, [[("write", 1)]])

    def test_not_even_all(self):
        """What is told by time goes beside all doors; also where the ones have no door at all."""
        self.assertEqual(self.least(plan=("levels", 1), tasks=[(0, 1), (1, 0)]), [])
        self.assertEqual(self.least(plan=("levels", 1), tasks=[(0, 1), (1, 0)], rights=[[], []]), [])

    def test_doors_by_the_rights_at_first_alone(self):
        """The ones get the right of the page by another task: it is none of their doors."""
        changes = dict(rights=[[], [("hand", 0), ("read", 0), PAGE]])
        self.assertEqual(self.least(**changes, most=5000), [])
        moment = start(**{**READER, **changes})
        self.assertEqual(kept(moment, [0], [PAGE], most=5000)[0], "kept")

    def test_doors_of_several_tasks(self):
        parts = dict(tasks=[(0, 0), (0, 0), (1, 0)], pages=[0, 0], plan=("slots", [(0, 1), (1, 1), (2, 1)]),
                     rights=[[PAGE], [("write", 1)], [("read", 0), ("read", 1)]])
        self.assertEqual(self.least(**parts, most=5000), [[PAGE, ("write", 1)]])
        self.assertEqual(self.least(**{**parts, "rights": [[PAGE], [PAGE], [("read", 0)]]}, most=5000), [[PAGE]])

    def expected(self, parts, ones, most):
        moment = first(Build(**parts))
        tasks = [task for task, (side, _) in enumerate(parts["tasks"]) if side in ones]
        doors = sorted({right for task in tasks for right in parts["rights"][task] if right[0] in ("send", "write")})
        for many in range(len(doors) + 1):
            found = []
            for row in itertools.combinations(doors, many):
                told = plain_kept(moment, ones, list(row), None, most) if row else plain_hush(moment, ones, None, most)
                if told[0] == ("many",):
                    return "many"
                if told[0][0] in ("kept", "hushed"):
                    found.append(list(row))
            if found:
                return found
        return []

    def test_against_plain_search(self):
        rng = random.Random(120)
        met = {"many": 0, "none": 0, 0: 0, 1: 0, 2: 0}
        for _ in range(110):
            parts, ones, _ = door_parts(rng)
            if rng.random() < 0.4:
                parts["pages"], parts["lines"], parts["outside"] = [0, 0], [None, None], None
                for task, (side, _) in enumerate(parts["tasks"]):
                    parts["rights"][task] = [PAGE, ("write", 1)] if side in ones else [("read", rng.randint(0, 1))]
            expected = self.expected(parts, ones, 300)
            if expected == "many":
                met["many"] += 1
                with self.assertRaises(TooMany) as caught:
                    least_doors(Build(**parts), ones, most=300)
                self.assertEqual(caught.exception.most, 300)
            else:
                self.assertEqual(least_doors(Build(**parts), ones, most=300), expected)
                met[len(expected[0]) if expected else "none"] += 1
        self.assertGreater(min(met["many"], met["none"], met[0], met[1]), 3, met)

    def test_too_many_for_the_first_list_that_is_asked(self):
        """By `hush` for the empty list; by `kept` for a later one, also if another one of that number keeps them."""
        build = Build(**some(**READER))
        many = len(hush(first(build), [1])[1])
        self.assertEqual(least_doors(build, [1], most=many), [[]])
        with self.assertRaises(TooMany) as caught:
            least_doors(build, [1], most=many - 1)
        self.assertEqual(caught.exception.most, many - 1)
        many = len(kept(first(build), [0], [PAGE])[1])
        self.assertEqual(least_doors(build, [0], most=many), [[PAGE]])
        with self.assertRaises(TooMany):
            least_doors(build, [0], most=many - 1)
        build = Build(**some(**{**READER, "pages": [0, 0], "rights": [[PAGE, ("write", 1)], [("read", 1)]]}))
        few, more = [len(kept(first(build), [0], [door], most=5000)[-1]) for door in (PAGE, ("write", 1))]
        self.assertEqual(kept(first(build), [0], [PAGE])[0], "tells")
        self.assertLess(few, more)
        with self.assertRaises(TooMany):
            least_doors(build, [0], most=more - 1)
        self.assertEqual(least_doors(build, [0], most=more), [[("write", 1)]])

    def test_two_thousand_without_words(self):
        rights = [[("take", 0), PAGE], [("read", 0)]]
        build = Build(**some(**{**LARGE, "rights": rights}))
        with self.assertRaises(TooMany) as caught:
            least_doors(build, [0])
        self.assertEqual(caught.exception.most, 2000)


class TestThrough(unittest.TestCase):
    def test_silent(self):
        self.assertEqual(through(start(**READER), [1], [PAGE]), ("silent",))
        self.assertEqual(through(start(**{**READER, "rights": [[PAGE], []]}), [0], [PAGE]), ("silent",))

    def test_kept(self):
        moment = start(**READER)
        self.assertEqual(through(moment, [0], [PAGE]), ("kept", hush(moment, [0])[2]))

    def test_beside(self):
        moment = start(**{**READER, "ports": [1]})
        self.assertEqual(through(moment, [0], [PORT]), ("beside", kept(moment, [0], [PORT])[2]))
        self.assertNotEqual(through(moment, [0], [PORT])[1], hush(moment, [0])[2])

    def test_with_eyes(self):
        moment = start(**CHAIN)
        self.assertEqual(through(moment, [1], [("write", 1)], eyes=[0]), ("silent",))
        self.assertEqual(through(moment, [0], [PAGE], eyes=[2], most=5000), ("kept", hush(moment, [0], eyes=[2])[2]))
        self.assertEqual(through(moment, [0], [PAGE], eyes=[1], most=5000), ("kept", hush(moment, [0], eyes=[1])[2]))
        told = through(moment, [0], [("write", 1)], eyes=[2], most=5000)
        self.assertEqual(told, ("beside", kept(moment, [0], [("write", 1)], eyes=[2], most=5000)[2]))

    def test_against_both(self):
        rng = random.Random(121)
        met = {"silent": 0, "kept": 0, "beside": 0, "many": 0}
        for _ in range(250):
            parts, ones, eyes = door_parts(rng)
            doors = some_doors(rng, parts)
            moment = later(rng, first(Build(**parts)), rng.choice([0, 0, 5]))
            expected = self.expected(moment, ones, doors, eyes, 300)
            if expected is None:
                met["many"] += 1
                with self.assertRaises(TooMany) as caught:
                    through(moment, ones, doors, eyes=eyes, most=300)
                self.assertEqual(caught.exception.most, 300)
                continue
            told = through(moment, ones, doors, eyes=eyes, most=300)
            self.assertEqual(told, expected)
            met[told[0]] += 1
            if told[0] == "kept":
                self.assertTrue(self.speaks(moment, ones, doors, told[1]))
        self.assertGreater(min(met.values()), 8, met)

    def expected(self, moment, ones, doors, eyes, most):
        try:
            told = hush(moment, ones, eyes=eyes, most=most)
            if told[0] == "hushed":
                return ("silent",)
            beside = kept(moment, ones, doors, eyes=eyes, most=most)
        except TooMany:
            return None
        return ("kept", told[2]) if beside[0] == "kept" else ("beside", beside[2])

    def speaks(self, moment, ones, doors, rows):
        """The fact of [40]: something is spoken in the loud kernel, ahead of the last row."""
        side = DoorSide(moment.build(), ones, doors)
        found = False
        for letter, call, _ in rows[:-1]:
            found = found or (call is not None and side.spoken(moment, letter, call) is not None)
            moment = moment.tick(letter, call)[1]
        return found

    def test_too_many_of_either(self):
        moment = start(**READER)
        many = len(kept(moment, [0], [PAGE])[1])
        self.assertEqual(hush(moment, [0], most=many - 1)[0], "tells")
        with self.assertRaises(TooMany) as caught:
            through(moment, [0], [PAGE], most=many - 1)
        self.assertEqual(caught.exception.most, many - 1)
        self.assertEqual(through(moment, [0], [PAGE], most=many)[0], "kept")
        many = len(hush(moment, [1])[1])
        self.assertEqual(through(moment, [1], [PAGE], most=many), ("silent",))
        with self.assertRaises(TooMany):
            through(moment, [1], [PAGE], most=many - 1)

    def test_kept_is_not_asked_where_the_ones_are_hushed(self):
        """It would have too many triples."""
        moment = start(pages=[0, 0], ports=[], locks=0, rights=[[PAGE, ("write", 1)], []], plan=("slots", [(0, 1)]))
        many = len(hush(moment, [0])[1])
        self.assertEqual(asked(moment, [0], [PAGE], None, many), ("many",))
        self.assertEqual(through(moment, [0], [PAGE], most=many), ("silent",))


class TestValues(unittest.TestCase):
    def test_lists_are_new(self):
        for ask in (lambda: kept(start(**READER), [0], [PAGE]), lambda: kept(start(**{**READER, "ports": [1]}), [0], [PORT]),
                    lambda: least_doors(Build(**some(**READER)), [0]), lambda: least_doors(Build(**some(**READER)), [1]),
                    lambda: through(start(**READER), [0], [PAGE]), lambda: through(start(**{**READER, "ports": [1]}), [0], [PORT])):
            told = ask()
            self.assertTrue(has_own_lists(told))
            saved = repr(self.plain(told))
            spoil(told)
            self.assertEqual(repr(self.plain(ask())), saved)

    def plain(self, told):
        """The same with the shapes of moments."""
        if isinstance(told, (list, tuple)):
            return [self.plain(item) for item in told]
        return told.shape() if isinstance(told, Moment) else told

    def test_nothing_that_is_handed_in_is_changed(self):
        moment, ones, doors, eyes = start(**CHAIN), [0], [PAGE, ("write", 1)], [2]
        kept(moment, ones, doors, eyes=eyes, most=5000)
        through(moment, ones, doors, eyes=eyes, most=5000)
        least_doors(Build(**some(**READER)), ones)
        self.assertEqual((ones, doors, eyes), ([0], [PAGE, ("write", 1)], [2]))
        self.assertTrue(moment == start(**CHAIN))

    def test_builds_of_all_kinds(self):
        """No error but those that are told, for any build and any doors."""
        rng = random.Random(122)
        for _ in range(60):
            parts = some_parts(rng)
            if all_doors(parts):
                ones, eyes = some_roles(rng, Build(**parts))
                self.assertIn(asked(first(Build(**parts)), ones, some_doors(rng, parts), eyes, 300)[0], ("many", "kept", "tells"))

    def test_hush_goes_on_as_before(self):
        """Beside a door that the ones never use, they tell by any calls in both kernels; `hush` lets them only pass."""
        moment = start(**{**READER, "ports": [1]})
        self.assertEqual({row[2] for row in hush(moment, [0])[2][:1]}, {PASS})
        self.assertIsNone(closed_fault(moment, [1], hush(moment, [1])[1]))


if __name__ == "__main__":
    unittest.main()
