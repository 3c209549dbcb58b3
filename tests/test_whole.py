"""The facts of the whole document that join several modules: [18], [22], [24], [25], [26], [28], [29], [30], [31], [35], [36], [40]."""

import random
import unittest

from hushkernel.builds import Build
from hushkernel.cures import cured
from hushkernel.doorjudges import beside_fault, kept_fault
from hushkernel.doors import kept, least_doors, through
from hushkernel.errors import NoLong, TooMany
from hushkernel.graphs import graph
from hushkernel.hushes import hush, hushed_sets, learns
from hushkernel.images import moment_text, read_moment
from hushkernel.judges import closed_fault, tells_fault
from hushkernel.listings import program_text, read_program
from hushkernel.live import Live
from hushkernel.moments import first, played
from hushkernel.programs import ran, speakers
from hushkernel.serving import served, starves_fault
from hushkernel.sights import sights
from hushkernel.texts import build_text, read_build

from tests.helper import (all_calls, later, letters_of, small_parts, some_letters, some_parts, some_programs, some_roles,
                          twin_parts)
from tests.test_doors import door_parts, some_doors

PASS = ("pass",)


def told_by(ask, *args, **words):
    """What is returned, or None if there are too many."""
    try:
        return ask(*args, **words)
    except TooMany:
        return None


def sides_seen(seen, tasks):
    return [sight if sight is not None and sight[0] in tasks else None for sight in seen]


class TestCalls(unittest.TestCase):
    def test_calls_that_are_not_worth_trying_lead_to_no_other_moment(self):
        """[18], [20]: up to answers "no" in the place of "yes" the graph has all moments that any acts come to."""
        rng = random.Random(141)
        met = 0
        while met < 12:
            parts = small_parts(rng)
            rows = told_by(graph, first(Build(**parts)), most=300)
            if rows is None:
                continue
            met += 1
            known = {self.loose(moment) for moment, _ in rows}
            moment = first(Build(**parts))
            for _ in range(120):
                letter = rng.choice(letters_of(moment))
                call = None if moment.due(letter) is None else rng.choice(all_calls(parts))
                moment = moment.tick(letter, call)[1]
                self.assertIn(self.loose(moment), known)

    def loose(self, moment):
        shape = list(moment.shape())
        shape[1] = tuple("yes" if answer == "no" else answer for answer in shape[1])
        return tuple(shape)


class TestHushed(unittest.TestCase):
    def test_one_build_by_all_modules(self):
        """[24], [25], [28], [29], [30], [40]: all that the modules say of the same ones agrees."""
        rng = random.Random(142)
        met = {"hushed": 0, "tells": 0}
        while min(met.values()) < 25:
            parts = twin_parts(rng)
            build = Build(**parts)
            ones, _ = some_roles(rng, build)
            moment = first(build)
            told = told_by(hush, moment, ones, most=300)
            if told is None:
                continue
            met[told[0]] += 1
            others = [task for task, (side, _) in enumerate(parts["tasks"]) if side not in ones]
            programs, letters = some_programs(rng, parts), some_letters(rng, 12)
            counts = told_by(sights, moment, ones, programs, letters, 12, most=3000)
            if told[0] == "hushed":
                self.assertIsNone(closed_fault(moment, ones, told[1]))
                self.assertIn(counts, (None, [1] * 13))
                self.lead(rng, parts, ones)
            else:
                self.assertIsNone(tells_fault(moment, ones, told[2]))
                self.part(rng, parts, ones, told[2], others)

    def lead(self, rng, parts, ones):
        """[28]: hushed ones never part a live kernel and its twin."""
        live = Live(Build(**parts), ones=ones)
        for _ in range(40):
            letter = rng.choice(letters_of(live.moment()))
            live.tick(letter, None if live.due(letter) is None else rng.choice(all_calls(parts)))
        self.assertIsNone(live.parted())

    def part(self, rng, parts, ones, rows, others):
        """[28], [29]: the rows part a live kernel from its twin just at their last tick; so do programs that speak them."""
        live = Live(Build(**parts), ones=ones)
        for letter, call, _ in rows[:-1]:
            live.tick(letter, call)
        self.assertIsNone(live.parted())
        call = None if live.due(rows[-1][0]) is None else rng.choice(all_calls(parts))
        live.tick(rows[-1][0], call)
        self.assertEqual(live.parted(), len(rows) - 1)
        self.assertTrue(live.moment() == played(first(Build(**parts)), list(live))[1])
        try:
            loud, quiet = [speakers(first(Build(**parts)), rows, which) for which in (0, 1)]
        except NoLong:
            return
        letters, moment = [], first(Build(**parts))
        for letter, call in live:
            letters += [letter] if len(letters_of(moment)) == 3 else []
            moment = moment.tick(letter, call)[1]
        seen = [sides_seen(ran(first(Build(**parts)), programs, letters, len(rows))[0], others) for programs in (loud, quiet)]
        self.assertEqual(seen[0][:-1], seen[1][:-1])
        self.assertNotEqual(seen[0][-1], seen[1][-1])

    def test_sides_alone_and_together(self):
        """[25]: all other sides as eyes, or each alone."""
        rng = random.Random(143)
        met = 0
        while met < 25:
            build = Build(**twin_parts(rng))
            pairs, sets = told_by(learns, build, most=300), told_by(hushed_sets, build, most=300)
            if pairs is None or sets is None:
                continue
            met += 1
            for ones in sets:
                others = [side for side in build.sides() if side not in ones]
                words = [told_by(hush, first(build), ones, eyes=[side], most=2000) for side in others]
                self.assertTrue(all(told is None or told[0] == "hushed" for told in words))
            self.assertEqual([side for side in build.sides() if [side] in sets],
                             [side for side in build.sides() if side not in [a for a, _ in pairs]])

    def test_cures(self):
        """[26], also by what the others see of any programs."""
        rng = random.Random(144)
        for _ in range(60):
            parts = some_parts(rng)
            build = Build(**parts)
            ones, _ = some_roles(rng, build)
            names = sorted({"cut", "share", "slots", rng.choice(["cold", "pad", "wipe"])})
            cure = cured(build, ones, names)
            calls = {name: getattr(cure, name)() for name in parts}
            others = [task for task, (side, _) in enumerate(parts["tasks"]) if side not in ones]
            programs, letters = some_programs(rng, calls), some_letters(rng, 60)
            lists = []
            for _ in range(4):
                drawn = some_programs(rng, calls)
                row = [programs[task] if task in others else drawn[task] for task in range(len(programs))]
                lists.append(sides_seen(ran(first(cure), row, letters, 100)[0], others))
            self.assertEqual(lists[1:], lists[:-1])


class TestTexts(unittest.TestCase):
    def test_all_goes_on_from_what_was_read(self):
        """[33], [34], [35]: builds, moments and programs that were written and read answer as those of before."""
        rng = random.Random(145)
        for _ in range(80):
            parts, ones, eyes = door_parts(rng)
            build = Build(**parts)
            doors = some_doors(rng, parts)
            moment = later(rng, first(build), rng.randint(0, 8))
            other = read_build(build_text(build))
            spot = read_moment(other, moment_text(moment))
            self.assertTrue(other == build and spot == moment)
            for ask, args, words in [
                (hush, (ones,), {"eyes": eyes, "most": 60}), (kept, (ones, doors), {"eyes": eyes, "most": 60}),
                (through, (ones, doors), {"eyes": eyes, "most": 60}), (served, (0,), {"most": 80}),
            ]:
                one, two = told_by(ask, moment, *args, **words), told_by(ask, spot, *args, **words)
                self.assertEqual(repr(self.plain(one)), repr(self.plain(two)))
            programs, letters = some_programs(rng, parts), some_letters(rng, 20)
            again = [read_program(other, program_text(build, program)) for program in programs]
            self.assertEqual(again, programs)
            one, two = ran(moment, programs, letters, 40), ran(spot, again, letters, 40)
            self.assertEqual(one[0], two[0])
            self.assertTrue(one[1] == two[1])

    def plain(self, told):
        if isinstance(told, (list, tuple)):
            return [self.plain(item) for item in told]
        return told.shape() if hasattr(told, "shape") else told


class TestServed(unittest.TestCase):
    def test_runs_within_what_is_served(self):
        """[31]: along any run a ready task has its turn within so many ticks."""
        rng = random.Random(146)
        met = {"within": 0, "starves": 0}
        while min(met.values()) < 10:
            parts = small_parts(rng)
            moment = first(Build(**parts))
            for task in (0, 1):
                told = told_by(served, moment, task, most=300)
                if told is None:
                    continue
                met[told[0]] += 1
                if told[0] == "starves":
                    self.assertIsNone(starves_fault(moment, task, told))
                    continue
                at, since = moment, 0
                for _ in range(300):
                    since = since + 1 if at.status(task) == ("ready",) else 0
                    letter = rng.choice(letters_of(at))
                    if at.due(letter) == task:
                        self.assertLessEqual(since, told[1])
                        since = 0
                    self.assertLessEqual(since, told[1])
                    at = at.tick(letter, rng.choice(at.calls(letter) or [None]))[1]


class TestDoors(unittest.TestCase):
    def test_what_the_searches_say_of_the_same_doors(self):
        """[36], [38], [39], [40]: hushed ones are kept; the least doors keep; what goes beside is told by `kept`."""
        rng = random.Random(147)
        met = {"silent": 0, "kept": 0, "beside": 0}
        while min(met.values()) < 8:
            parts, ones, _ = door_parts(rng)
            build = Build(**parts)
            doors, moment = some_doors(rng, parts), first(build)
            told, held = told_by(through, moment, ones, doors, most=400), told_by(kept, moment, ones, doors, most=400)
            if told is None or held is None:
                continue
            met[told[0]] += 1
            self.assertEqual(held[0], "tells" if told[0] == "beside" else "kept")
            if held[0] == "kept":
                self.assertIsNone(kept_fault(moment, ones, doors, held[1]))
            else:
                self.assertIsNone(beside_fault(moment, ones, doors, held[2]))
                self.assertEqual(told[1], held[2])
            least = told_by(least_doors, build, ones, most=400)
            if least is not None:
                self.assertEqual(least == [[]], told[0] == "silent")
                if any(set(row) <= set(doors) for row in least):
                    self.assertNotEqual(told[0], "beside")


if __name__ == "__main__":
    unittest.main()
