"""[3], [4], [26], [27]: cures, and the fewest of them that hush the ones."""

import copy
import itertools
import random
import unittest

from hushkernel.builds import Build
from hushkernel.cures import cured, fewest
from hushkernel.errors import NoCures, NoMost, NoOnes, TooMany
from hushkernel.hushes import hush
from hushkernel.moments import first

from tests.helper import has_own_lists, odd_values, some, some_parts, some_roles, spoil, twin_parts

CURES = ["cold", "cut", "pad", "share", "slots", "still", "wipe"]
LISTS = [list(names) for many in range(8) for names in itertools.combinations(CURES, many)]


def made(**changes):
    return Build(**some(**changes))


READER = dict(tasks=[(1, 0), (0, 2)], pages=[1], ports=[], locks=0, rights=[[("read", 0)], [("write", 0)]],
              plan=("slots", [(0, 2), (1, 1)]))
# All things, and all that a task of side 0 can share with one of the others.
FULL = dict(
    tasks=[(0, 0), (1, 1), (2, 2)], pages=[0, 1, 0], ports=[1, 2], locks=2, frames=2, disk=3, lines=[0, None, 1],
    costs=(2, 1, 1), outside=(1, 3),
    rights=[
        [("hand", 0), ("hand", 1), ("lock", 0), ("lock", 1), ("read", 1), ("seek", 0), ("write", 0), ("write", 1)],
        [("hand", 0), ("lock", 1), ("read", 0), ("send", 0), ("strip", 2), ("write", 1)],
        [("read", 2), ("seek", 0), ("strip", 0), ("strip", 1)],
    ],
)


def plain_parts(build):
    """The parts of a build, by their names."""
    return {name: getattr(build, name)() for name in (*some(), "wipe", "pad", "lend", "share")}


def plain_cured(parts, ones, names):
    """As [26] tells it."""
    cure = copy.deepcopy(parts)
    of = [side in ones for side, _ in parts["tasks"]]
    others = [right for mine, row in zip(of, parts["rights"]) if not mine for right in row]
    for name in ("wipe", "pad", "share"):
        cure[name] = parts[name] or name in names
    if "cold" in names:
        cure["lines"] = [None] * len(parts["pages"])
    if "slots" in names:
        plain, miss, switch = parts["costs"]
        greatest = max(plain + miss, plain + parts["disk"] - 1 if parts["disk"] else 0)
        cure["plan"] = ("slots", [(task, min(12, greatest + greatest + switch)) for task in range(len(of))])
    if "still" in names:
        cure["disk"] = 0
        for row in cure["rights"]:
            row[:] = [right for right in row if right[0] != "seek"]
    if "cut" in names:
        for task, row in enumerate(cure["rights"]):
            for right in list(row):
                word, at = right
                gone = word in ("hand", "strip") and of[at] != of[task]
                if of[task]:
                    gone = gone or (word == "write" and ("read", at) in others)
                    gone = gone or (word in ("lock", "seek") and right in others)
                    if word in ("send", "take"):
                        gone = ("send", at) in others or ("take", at) in others
                        gone = gone or (parts["outside"] is not None and parts["outside"][0] == at)
                if gone:
                    row.remove(right)
    return cure


class TestEachCure(unittest.TestCase):
    def changed(self, names, ones=(0,), **changes):
        """The parts that a cure changes in the full build."""
        before = plain_parts(made(**{**FULL, **changes}))
        after = plain_parts(cured(Build(**before), list(ones), names))
        return {name: part for name, part in after.items() if part != before[name]}

    def test_flags(self):
        for name in ("wipe", "pad", "share"):
            self.assertEqual(self.changed([name]), {name: True})
            self.assertEqual(self.changed([name], **{name: True}), {})

    def test_lend_stays(self):
        for flag in (False, True):
            self.assertIs(cured(made(**FULL, lend=flag), [0], CURES).lend(), flag)

    def test_cold(self):
        self.assertEqual(self.changed(["cold"]), {"lines": [None, None, None]})
        self.assertEqual(self.changed(["cold"], lines=[None] * 3), {})

    def test_still(self):
        told = self.changed(["still"])
        self.assertEqual(sorted(told), ["disk", "rights"])
        self.assertEqual(told["disk"], 0)
        self.assertEqual(told["rights"], [[right for right in row if right != ("seek", 0)] for row in FULL["rights"]])
        rights = [[], [], []]
        self.assertEqual(self.changed(["still"], disk=0, rights=rights), {})
        self.assertEqual(self.changed(["still"], disk=2, rights=rights), {"disk": 0})

    def test_cut(self):
        self.assertEqual(self.changed(["cut"]), {"rights": [
            [("hand", 0), ("lock", 0), ("read", 1), ("write", 1)],
            [("lock", 1), ("read", 0), ("send", 0), ("strip", 2), ("write", 1)],
            [("read", 2), ("seek", 0), ("strip", 1)],
        ]})

    def test_cut_with_several_ones(self):
        self.assertEqual(self.changed(["cut"], [0, 1]), {"rights": [
            [("hand", 0), ("hand", 1), ("lock", 0), ("lock", 1), ("read", 1), ("write", 0), ("write", 1)],
            [("hand", 0), ("lock", 1), ("read", 0), ("send", 0), ("write", 1)],
            [("read", 2), ("seek", 0)],
        ]})

    def cut(self, mine, yours, **changes):
        """What is left of the rights of a task of the ones beside those of another one."""
        build = made(ports=[1, 1], locks=2, disk=2, rights=[mine, yours], **changes)
        rows = cured(build, [0], ["cut"]).rights()
        return rows[0], rows[1]

    def test_cut_right_by_right(self):
        for mine, yours in [
            (("write", 0), ("read", 0)), (("send", 0), ("take", 0)), (("send", 0), ("send", 0)), (("take", 0), ("take", 0)),
            (("take", 0), ("send", 0)), (("lock", 1), ("lock", 1)), (("seek", 0), ("seek", 0)),
        ]:
            self.assertEqual(self.cut([mine], [yours]), ([], [yours]))
        for mine, yours in [
            (("write", 0), ("read", 1)), (("write", 0), ("write", 0)), (("read", 0), ("write", 0)), (("read", 0), ("read", 0)),
            (("send", 0), ("take", 1)), (("lock", 0), ("lock", 1)), (("hand", 0), ("read", 0)), (("strip", 0), ("strip", 1)),
            (("seek", 0), ("lock", 0)),
        ]:
            self.assertEqual(self.cut([mine], [yours]), ([mine], [yours]))
        for word, other in itertools.product(("hand", "strip"), repeat=2):
            self.assertEqual(self.cut([(word, 0), (word, 1)], [(other, 0), (other, 1)]), ([(word, 0)], [(other, 1)]))

    def test_cut_by_letters_from_outside(self):
        mine = [("send", 0), ("send", 1), ("take", 0), ("take", 1)]
        self.assertEqual(self.cut(mine, [], outside=(1, 2)), ([("send", 0), ("take", 0)], []))
        self.assertEqual(self.cut(mine, [], outside=(0, 2)), ([("send", 1), ("take", 1)], []))
        self.assertEqual(self.cut(mine, []), (mine, []))
        self.assertEqual(self.cut([], mine, outside=(1, 2)), ([], mine))

    def test_cut_by_rights_at_first_alone(self):
        """A right that could be handed on later is none of the others."""
        self.assertEqual(self.cut([("write", 0)], [("hand", 1)]), ([("write", 0)], [("hand", 1)]))

    def test_slots(self):
        self.assertEqual(self.changed(["slots"]), {"plan": ("slots", [(0, 9), (1, 9), (2, 9)])})
        for costs, disk, ticks in [
            ((1, 0, 0), 0, 2), ((1, 0, 2), 0, 4), ((1, 1, 0), 2, 4), ((1, 2, 1), 2, 7), ((1, 0, 0), 4, 8), ((2, 1, 2), 4, 12),
            ((3, 2, 2), 0, 12), ((3, 3, 0), 0, 12), ((3, 3, 1), 0, 12), ((3, 3, 2), 4, 12), ((3, 1, 2), 4, 12),
        ]:
            told = cured(made(costs=costs, disk=disk), [1], ["slots"]).plan()
            self.assertEqual(told, ("slots", [(0, ticks), (1, ticks)]))

    def test_slots_beside_still_and_cold(self):
        """The greatest cost is that of the build that is handed in."""
        self.assertEqual(cured(made(disk=4), [0], ["slots", "still"]).plan(), ("slots", [(0, 8), (1, 8)]))
        self.assertEqual(cured(made(costs=(1, 3, 0)), [0], ["cold", "slots"]).plan(), ("slots", [(0, 8), (1, 8)]))

    def test_still_beside_cut(self):
        build = made(disk=2, rights=[[("seek", 0)], [("seek", 0)]])
        self.assertEqual(cured(build, [0], ["cut"]).rights(), [[], [("seek", 0)]])
        self.assertEqual(cured(build, [0], ["cut", "still"]).rights(), [[], []])

    def test_no_names(self):
        self.assertEqual(self.changed([]), {})
        self.assertIsInstance(cured(made(**FULL), [0], []), Build)


class TestAllLists(unittest.TestCase):
    def test_against_plain_cures(self):
        rng = random.Random(41)
        for _ in range(40):
            parts = some_parts(rng)
            build = Build(**parts)
            ones, _ = some_roles(rng, build)
            for names in LISTS:
                self.assertEqual(plain_parts(cured(build, ones, names)), plain_cured(parts, ones, names))
            self.assertEqual(plain_parts(build), parts)

    def test_the_fact(self):
        """The ones are hushed by "cut", "share", "slots", and one of "cold", "pad" and "wipe"."""
        rng = random.Random(42)
        hushed = 0
        while hushed < 40:
            build = Build(**rng.choice([twin_parts, some_parts])(rng))
            ones, _ = some_roles(rng, build)
            extra = [name for name in ("cold", "pad", "wipe", "still") if rng.random() < 0.5]
            names = sorted({"cut", "share", "slots", rng.choice(["cold", "pad", "wipe"]), *extra})
            try:
                told = hush(first(cured(build, ones, names)), ones, most=1500)
            except TooMany:
                continue
            self.assertEqual(told[0], "hushed")
            hushed += 1


class TestErrors(unittest.TestCase):
    def test_no_ones(self):
        build = made()
        for ones in [*odd_values(), [2], [0, 1], [True], (0,)]:
            if repr(ones) not in ("[0]", "[1]"):
                with self.subTest(f"{ones!r}"):
                    with self.assertRaises(NoOnes):
                        cured(build, ones, None)
                    with self.assertRaises(NoOnes):
                        fewest(build, ones, most=None)

    def test_no_cures(self):
        wrong = [["cut", "cold"], ["cut", "cut"], ["Cut"], [""], ["cut", None], [["cut"]], ["lend"], ("cut",), "cut", {"cut": 1},
                 [*CURES, "wipe"], ["cut", "x"], [0], [True], [("cut",)]]
        for names in [*wrong, *odd_values()]:
            if names != []:
                with self.subTest(f"{names!r}"), self.assertRaises(NoCures):
                    cured(made(), [0], names)
        for names in LISTS:
            self.assertIsInstance(cured(made(), [0], names), Build)

    def test_no_most(self):
        for most in [*odd_values(), 5001, 0, -1]:
            if repr(most) not in [str(number) for number in range(1, 5001)]:
                with self.subTest(f"{most!r}"), self.assertRaises(NoMost):
                    fewest(made(), [0], most=most)
        self.assertEqual(fewest(made(plan=("slots", [(0, 1)])), [0], most=5000), [[]])

    def test_too_many(self):
        build = made(plan=("slots", [(0, 1)]))
        self.assertEqual(fewest(build, [0], most=5), [[]])
        with self.assertRaises(TooMany) as caught:
            fewest(build, [0], most=4)
        self.assertEqual(caught.exception.most, 4)


class TestFewest(unittest.TestCase):
    def test_by_hand(self):
        self.assertEqual(fewest(made(**READER), [0]), [["cut"]])
        self.assertEqual(fewest(made(**READER), [1]), [[]])

    def test_turns(self):
        """Only slots of its own keep a task from the turns of another one."""
        self.assertEqual(fewest(made(tasks=[(0, 1), (1, 0)], pages=[], ports=[], locks=0), [0]), [["slots"]])

    def test_the_cache(self):
        """The page of the ones is in the line of the other page, or not."""
        build = made(pages=[0, 0], ports=[], locks=0, lines=[1, 1], costs=(1, 1, 0), rights=[[("read", 0)], [("read", 1)]],
                     plan=("slots", [(0, 3), (1, 3)]))
        self.assertEqual(fewest(build, [0]), [["cold"], ["pad"], ["wipe"]])

    def test_two_at_once(self):
        build = made(pages=[0, 0], locks=0, lines=[1, 1], costs=(1, 1, 0), plan=("levels", 1), tasks=[(0, 1), (1, 0)],
                     rights=[[("read", 0), ("take", 0)], [("read", 1)]])
        self.assertEqual(fewest(build, [0]), [["cold", "slots"], ["pad", "slots"], ["slots", "wipe"]])

    def test_frames(self):
        build = made(pages=[], ports=[], locks=0, frames=1, plan=("slots", [(0, 1), (1, 1)]))
        self.assertEqual(fewest(build, [0]), [["share"]])

    def test_the_disk(self):
        build = made(pages=[], ports=[], locks=0, disk=2, rights=[[("seek", 0)], [("seek", 0)]],
                     plan=("slots", [(0, 2), (1, 3)]))
        self.assertEqual(fewest(build, [0]), [["cut"], ["pad"], ["still"]])

    def test_against_hush(self):
        rng = random.Random(43)
        met = {"many": 0, 0: 0, 1: 0, 2: 0, 3: 0}
        for _ in range(130):
            build = Build(**twin_parts(rng))
            ones, _ = some_roles(rng, build)
            most = rng.choice([150, 900])
            expected = self.expected(build, ones, most)
            if expected == "many":
                with self.assertRaises(TooMany) as caught:
                    fewest(build, ones, most=most)
                self.assertEqual(caught.exception.most, most)
                met["many"] += 1
            else:
                self.assertEqual(fewest(build, ones, most=most), expected)
                met[len(expected[0])] += 1
        self.assertGreater(min(met["many"], met[0], met[1], met[2]), 2, met)

    def expected(self, build, ones, most):
        for many in range(8):
            found = []
            for names in itertools.combinations(CURES, many):
                cure = Build(**plain_cured(plain_parts(build), ones, list(names)))
                try:
                    told = hush(first(cure), ones, most=most)
                except TooMany:
                    return "many"
                if told[0] == "hushed":
                    found.append(list(names))
            if found:
                return found
        return []

    def test_four_at_once(self):
        """A page, a frame, the turns, and the line of another page."""
        build = made(tasks=[(0, 1), (1, 0)], pages=[0, 0], locks=0, frames=1, lines=[0, 0], costs=(1, 1, 0),
                     plan=("levels", 1), rights=[[("read", 0), ("take", 0), ("write", 1)], [("read", 1)]])
        self.assertEqual(fewest(build, [0]), [
            ["cold", "cut", "share", "slots"], ["cut", "pad", "share", "slots"], ["cut", "share", "slots", "wipe"],
        ])


class TestValues(unittest.TestCase):
    def test_nothing_that_is_handed_in_is_changed(self):
        build, ones, names = made(**FULL), [0, 2], list(CURES)
        cured(build, ones, names)
        self.assertTrue(build == made(**FULL))
        self.assertEqual((ones, names), ([0, 2], CURES))
        build, ones = made(**READER), [0]
        fewest(build, ones)
        self.assertTrue(build == made(**READER))
        self.assertEqual(ones, [0])

    def test_lists_are_new(self):
        for build, ones in ((made(**READER), [0]), (made(**READER), [1])):
            told = fewest(build, ones)
            kept = copy.deepcopy(told)
            self.assertTrue(has_own_lists(told))
            spoil(told)
            self.assertEqual(fewest(build, ones), kept)


if __name__ == "__main__":
    unittest.main()
