"""[2], [3], [4], [7], [8], [9]: builds."""

import copy
import unittest

from hushkernel.builds import Build
from hushkernel.errors import NoBuild
from hushkernel.moments import first

from tests.helper import has_own_lists, odd_values, some, spoil

ORDER = ["tasks", "pages", "ports", "locks", "frames", "disk", "rights", "lines", "costs", "plan", "outside",
         "wipe", "pad", "lend", "share"]

RICH = some(
    tasks=[(3, 0), (0, 2), (3, 1)], pages=[1, 0, 1], ports=[2, 1], locks=2, frames=3, disk=4,
    rights=[
        [("hand", 2), ("lock", 1), ("read", 0), ("read", 2), ("seek", 0), ("send", 1), ("strip", 0), ("take", 0)],
        [],
        [("write", 2)],
    ],
    lines=[None, 1, 0], costs=(3, 0, 2), plan=("slots", [(2, 12), (2, 1), (0, 3)]), outside=(1, 4),
    wipe=True, pad=False, lend=True, share=True,
)

# What is right and what is wrong, by the name of the part; beside the part, what else the build needs.
RIGHT = {
    "tasks": [[(0, 0), (1, 0)], [(3, 2), (0, 0)], [(1, 0), (1, 0), (2, 0)], [(0, 0), (1, 1), (2, 2), (3, 0)]],
    "pages": [[], [0], [1, 0, 1]],
    "ports": [[], [1], [2, 1]],
    "locks": [0, 1, 2],
    "frames": [0, 1, 2, 3],
    "disk": [0, 2, 3, 4],
    "rights": [
        [[], []],
        [[("read", 0), ("read", 1), ("write", 0), ("write", 1)], [("hand", 0), ("hand", 1), ("strip", 1)]],
        [[("hand", 0), ("hand", 1), ("lock", 0), ("read", 0), ("read", 1), ("send", 0), ("strip", 0), ("take", 0)], []],
    ],
    "lines": [[None, None], [0, 1], [1, 1], [0, None]],
    "costs": [(1, 0, 0), (3, 3, 2)],
    "plan": [("levels", 1), ("levels", 8), ("slots", [(0, 1)]), ("slots", [(1, 12), (0, 1), (0, 2), (1, 3)])],
    "outside": [None, (0, 1), (0, 4)],
    "wipe": [True, False],
    "pad": [True, False],
    "lend": [True, False],
    "share": [True, False],
}
WRONG = {
    "tasks": [
        [], [(0, 0)], [(0, 0), (0, 1)], [(0, 0)] * 4, [(0, 0), (1, 0), (2, 0), (3, 0), (0, 0)],
        [(4, 0), (1, 0)], [(-1, 0), (1, 0)], [(0, 3), (1, 0)], [(0, -1), (1, 0)], [(True, 0), (0, 0)],
        [(0, 0), (1, False)], [[0, 0], (1, 0)], [(0,), (1, 0)], [(0, 0), (1, 0, 0)], [(0, None), (1, 0)],
        ((0, 0), (1, 0)), [("0", 0), (1, 0)], [(0, 0), 1],
    ],
    "pages": [[2], [-1], [True], [None], [0, 0, 0, 0], (0, 1), [[0]], ["0"], {0: 1}],
    "ports": [[0], [3], [True], [1, 1, 1], (1,), [None], [(1,)]],
    "locks": [-1, 3, True, False, None, "1", [1], (0,)],
    "frames": [-1, 4, True, False, None, "1", [1]],
    "disk": [-1, 1, 5, True, False, None, "2", [2]],
    "rights": [
        [], [[]], [[], [], []], ([], []), [[], ()], [[("read", 2)], []], [[("read", -1)], []],
        [[("write", 2)], []], [[("send", 1)], []], [[("take", 1)], []], [[("lock", 1)], []], [[("hand", 2)], []],
        [[("strip", 2)], []], [[], [("seek", 0)]], [[("read", True)], []], [[("read", False)], []],
        [[["read", 0]], []], [[("read", 0, 0)], []], [[("read",)], []], [[("wait", 0)], []], [[("free", 0)], []],
        [[("get",)], []], [[("pass",)], []], [["read"], []], [[(0, "read")], []], [[("read", "0")], []],
        [[("read", 1), ("read", 0)], []], [[("read", 0), ("read", 0)], []], [[], [("write", 0), ("read", 0)]],
        [[("hand", 0), ("hand", 1), ("lock", 0), ("read", 0), ("read", 1), ("send", 0), ("strip", 0), ("strip", 1),
          ("take", 0)], []],
        [[("read", 0)], None], [[()], []], [[("read", [0])], []],
    ],
    "lines": [
        [], [None], [None, None, None], (None, None), [2, None], [-1, None], [True, None], [None, False],
        ["0", None], [[0], None], [None, (None,)],
    ],
    "costs": [
        (0, 0, 0), (4, 0, 0), (1, -1, 0), (1, 4, 0), (1, 0, -1), (1, 0, 3), (True, 0, 0), (1, False, 0),
        (1, 0, False), [1, 0, 0], (1, 0), (1, 0, 0, 0), (), (1, 0, None), ((1,), 0, 0),
    ],
    "plan": [
        ("levels", 0), ("levels", 9), ("levels", True), ("levels", None), ("levels",), ("levels", 1, 1),
        ["levels", 1], ("level", 1), ("levels", [(0, 1)]), ("slots", 1), ("slots", []), ("slots", ((0, 1),)),
        ("slots", [(0, 1)] * 5), ("slots", [(2, 1)]), ("slots", [(-1, 1)]), ("slots", [(0, 0)]), ("slots", [(0, 13)]),
        ("slots", [(True, 1)]), ("slots", [(0, True)]), ("slots", [[0, 1]]), ("slots", [(0,)]), ("slots", [(0, 1, 1)]),
        ("slots", [(0, 1), None]), ("slots",), "levels", (None, 1), ([], 1), ("slots", {}),
        ("slot", [(0, 1)]), ("", [(0, 1)]), (None, [(0, 1)]), (["slots"], [(0, 1)]), ("Levels", 1), ("slots", "levels"),
    ],
    "outside": [
        (1, 1), (-1, 1), (0, 0), (0, 5), (True, 1), (False, 1), (0, True), [0, 1], (0,), (0, 1, 1), 0, False,
        (), (None, 1), (0, None), ((0,), 1),
    ],
    "wipe": [0, 1, None, "", [], ()],
    "pad": [0, 1, None, "", [], ()],
    "lend": [0, 1, None, "", [], ()],
    "share": [0, 1, None, "", [], ()],
}


def with_part(part, value):
    """The parts of a build with another value of a part; lines and rights go with the pages and tasks."""
    if part == "tasks":
        rights = [[] for _ in value] if isinstance(value, (list, tuple)) else [[], []]
        return some(tasks=value, rights=rights)
    if part == "pages":
        return some(pages=value, lines=[None for _ in value])
    return some(**{part: value})


class TestParts(unittest.TestCase):
    def test_the_parts_are_returned(self):
        build = Build(**RICH)
        for name in ORDER:
            with self.subTest(name):
                self.assertEqual(getattr(build, name)(), RICH[name])

    def test_the_flags_are_false_without_words(self):
        build = Build(**some())
        for name in ("wipe", "pad", "lend", "share"):
            self.assertIs(getattr(build, name)(), False)

    def test_the_kinds_that_are_returned(self):
        for part, values in RIGHT.items():
            for value in values:
                told = getattr(Build(**with_part(part, value)), part)()
                self.assertEqual(repr(told), repr(value))

    def test_arguments_by_position_and_flags_by_name(self):
        places = [RICH[name] for name in ORDER[:11]]
        build = Build(*places, wipe=True, lend=True, share=True)
        self.assertTrue(build == Build(**RICH))
        with self.assertRaises(TypeError):
            Build(*places, True)

    def test_sides(self):
        self.assertEqual(Build(**RICH).sides(), [0, 3])
        self.assertEqual(Build(**some(tasks=[(3, 0), (1, 0), (2, 0), (0, 0)])).sides(), [0, 1, 2, 3])
        self.assertEqual(Build(**some(tasks=[(2, 0), (1, 0), (2, 1)])).sides(), [1, 2])


class TestChecks(unittest.TestCase):
    def test_parts_at_their_bounds(self):
        for part, values in RIGHT.items():
            for value in values:
                with self.subTest(f"{part} {value!r}"):
                    Build(**with_part(part, value))

    def test_parts_that_are_not_as_described(self):
        for part, values in WRONG.items():
            for value in values:
                with self.subTest(f"{part} {value!r}"), self.assertRaises(NoBuild) as caught:
                    Build(**with_part(part, value))
                self.assertEqual(caught.exception.part, part)

    def test_odd_values(self):
        """Whatever is handed in for a part: it is one that may stand there, or the part is named."""
        let = {
            "pages": [[], [0], [1], [0, 1], [0, 0], [1, 0]], "ports": [[], [1]], "outside": [None, (0, 1)],
            "locks": [0, 1, 2], "frames": [0, 1, 2, 3], "disk": [0, 2, 3, 4], "lines": [[0, 1], [0, 0], [1, 0]],
        }
        for part in ORDER:
            allowed = [repr(value) for value in let.get(part, [True, False] if part in ORDER[11:] else [])]
            for value in odd_values():
                if repr(value) not in allowed:
                    with self.subTest(f"{part} {value!r}"), self.assertRaises(NoBuild) as caught:
                        Build(**{**some(), part: value})
                    self.assertEqual(caught.exception.part, part)

    def test_the_first_part_that_is_wrong_is_named(self):
        for at, part in enumerate(ORDER):
            for later in ORDER[at + 1:]:
                parts = some()
                parts[part], parts[later] = WRONG[part][0], WRONG[later][0]
                with self.subTest(f"{part} {later}"), self.assertRaises(NoBuild) as caught:
                    Build(**parts)
                self.assertEqual(caught.exception.part, part)

    def test_things_that_the_build_has_not(self):
        wrong = [
            ("rights", some(pages=[], rights=[[("read", 0)], []])),
            ("rights", some(ports=[], rights=[[], [("take", 0)]])),
            ("rights", some(locks=0, rights=[[], [("lock", 0)]])),
            ("rights", some(disk=2, rights=[[], [("seek", 1)]])),
            ("rights", some(disk=2, rights=[[], [("seek", False)]])),
            ("outside", some(ports=[], outside=(0, 1))),
            ("lines", some(pages=[], lines=[None])),
        ]
        for part, parts in wrong:
            with self.subTest(part), self.assertRaises(NoBuild) as caught:
                Build(**parts)
            self.assertEqual(caught.exception.part, part)
        self.assertEqual(Build(**some(disk=2, rights=[[], [("seek", 0)]])).rights(), [[], [("seek", 0)]])


class TestCopies(unittest.TestCase):
    def test_what_was_handed_in_may_be_changed(self):
        parts = copy.deepcopy(RICH)
        build = Build(**parts)
        self.assertEqual(parts, RICH)
        for name in ("tasks", "pages", "ports", "lines"):
            parts[name].append(0)
        parts["rights"][1].append(("read", 0))
        parts["rights"].append([])
        parts["plan"][1].pop()
        self.assertTrue(build == Build(**RICH))
        self.assertEqual(build.plan(), RICH["plan"])
        self.assertEqual(first(build).rights(1), [])

    def test_what_was_returned_may_be_changed(self):
        build = Build(**RICH)
        for name in [*ORDER, "sides"]:
            told = getattr(build, name)()
            self.assertTrue(has_own_lists(told))
            spoil(told)
        for name in ORDER:
            self.assertEqual(getattr(build, name)(), RICH[name])
        self.assertEqual(build.sides(), [0, 3])

    def test_empty_rows_are_not_the_same_list(self):
        row = []
        build = Build(**some(tasks=[(0, 0), (1, 0), (1, 0)], rights=[row, row, row]))
        self.assertTrue(has_own_lists(build.rights()))


class TestEqual(unittest.TestCase):
    def test_equal_parts(self):
        self.assertTrue(Build(**RICH) == Build(**copy.deepcopy(RICH)))
        self.assertFalse(Build(**RICH) != Build(**copy.deepcopy(RICH)))

    def test_each_part_counts(self):
        changes = {
            "tasks": [(3, 0), (0, 2), (3, 2)], "pages": [1, 0, 0], "ports": [2, 2], "locks": 0, "frames": 2,
            "disk": 3, "rights": [[], [], []], "lines": [None, 1, 1], "costs": (3, 0, 1), "plan": ("levels", 8),
            "outside": (1, 3), "wipe": False, "pad": True, "lend": False, "share": False,
        }
        some_rights = [[("read", 0)], [], [("write", 2)]]
        for name, value in changes.items():
            parts = {**RICH, "rights": some_rights}
            with self.subTest(name):
                self.assertFalse(Build(**parts) == Build(**{**parts, name: value}))
        self.assertFalse(Build(**{**RICH, "outside": None}) == Build(**RICH))


if __name__ == "__main__":
    unittest.main()
