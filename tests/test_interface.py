"""[41]: names, arguments, places and the examples of the interface."""

import inspect
import unittest

from hushkernel import (builds, cures, doorjudges, doors, graphs, hushes, images, judges, listings, live, moments, programs, serving,
                        sights, texts)
from hushkernel.builds import Build
from hushkernel.cures import fewest
from hushkernel.hushes import hush, learns
from hushkernel.live import Live
from hushkernel.moments import Moment, first, played
from hushkernel.texts import build_text, read_build

from tests.helper import some

FUNCTIONS = {
    moments: {"first": "(build)", "played": "(moment, acts)"},
    graphs: {
        "graph": "(moment, *, most=500)", "watched": "(moment, watch)", "ever": "(moment, watch, *, most=500)",
    },
    hushes: {
        "hush": "(moment, ones, *, eyes=None, most=2000)", "hushed_sets": "(build, *, most=2000)",
        "learns": "(build, *, most=2000)",
    },
    judges: {
        "closed_fault": "(moment, ones, thing, *, eyes=None)", "tells_fault": "(moment, ones, thing, *, eyes=None)",
    },
    cures: {"cured": "(build, ones, names)", "fewest": "(build, ones, *, most=2000)"},
    programs: {"ran": "(moment, programs, letters, ticks)", "speakers": "(moment, rows, which)"},
    sights: {"sights": "(moment, ones, programs, letters, ticks, *, most=500)"},
    serving: {"served": "(moment, task, *, most=500)", "starves_fault": "(moment, task, thing)"},
    texts: {"build_text": "(build)", "read_build": "(text)"},
    listings: {"program_text": "(build, program)", "read_program": "(build, text)"},
    images: {"moment_text": "(moment)", "read_moment": "(build, text)"},
    doors: {
        "kept": "(moment, ones, doors, *, eyes=None, most=2000)", "least_doors": "(build, ones, *, most=2000)",
        "through": "(moment, ones, doors, *, eyes=None, most=2000)",
    },
    doorjudges: {
        "kept_fault": "(moment, ones, doors, thing, *, eyes=None)", "beside_fault": "(moment, ones, doors, thing, *, eyes=None)",
    },
}
METHODS = {
    Build: {
        **{name: "(self)" for name in some()}, "sides": "(self)",
        **{name: "(self)" for name in ("wipe", "pad", "lend", "share")}, "__eq__": "(self, other)",
        "__init__": "(self, tasks, pages, ports, locks, frames, disk, rights, lines, costs, plan, outside, *, "
                    "wipe=False, pad=False, lend=False, share=False)",
    },
    Moment: {
        "build": "(self)", "status": "(self, task)", "answer": "(self, task)", "rights": "(self, task)",
        "held": "(self, task)", "pages": "(self)", "ports": "(self)", "locks": "(self)", "lines": "(self)",
        "head": "(self)", "running": "(self)", "due": "(self, outside=None)",
        "tick": "(self, outside=None, call=None)", "calls": "(self, outside=None)", "veiled": "(self, tasks)",
        "shape": "(self)", "__eq__": "(self, other)",
    },
    Live: {
        "__init__": "(self, build, *, ones=None)", "due": "(self, outside=None)", "calls": "(self, outside=None)",
        "tick": "(self, outside=None, call=None)", "back": "(self)", "__len__": "(self)", "__getitem__": "(self, at)",
        "__iter__": "(self)", "moment": "(self)", "twin": "(self)", "seen": "(self, task)", "twin_seen": "(self, task)",
        "parted": "(self)", "tried": "(self, action)",
    },
}


class TestNames(unittest.TestCase):
    def test_functions(self):
        for module, functions in FUNCTIONS.items():
            for name, arguments in functions.items():
                with self.subTest(name):
                    function = getattr(module, name)
                    self.assertEqual(function.__module__, module.__name__)
                    self.assertEqual(str(inspect.signature(function)), arguments)

    def test_classes(self):
        for owner, module in ((Build, builds), (Moment, moments), (Live, live)):
            self.assertEqual(owner.__module__, module.__name__)
        for owner, methods in METHODS.items():
            for name, arguments in methods.items():
                with self.subTest(f"{owner.__name__}.{name}"):
                    self.assertIn(name, vars(owner))
                    self.assertEqual(str(inspect.signature(vars(owner)[name])), arguments)


class TestExamples(unittest.TestCase):
    def setUp(self):
        self.build = Build(
            [(1, 0), (0, 2)], [1], [], 0, 0, 0, [[("read", 0)], [("write", 0)]], [None], (1, 0, 0),
            ("slots", [(0, 2), (1, 1)]), None,
        )

    def test_sides(self):
        self.assertEqual(repr(self.build.sides()), "[0, 1]")

    def test_calls(self):
        calls = "[('read', 0), ('sleep', 1), ('sleep', 2), ('pass',)]"
        self.assertEqual(repr(first(self.build).calls()), calls)

    def test_played(self):
        seen = played(first(self.build), [(None, ("read", 0)), (None, ("pass",))])[0]
        self.assertEqual(repr(seen), "[(0, None), (0, '1')]")

    def test_hush(self):
        self.assertEqual(hush(first(self.build), [1])[0], "hushed")
        told = hush(first(self.build), [0])
        self.assertEqual(repr((told[0], told[1], len(told[2]))), "('tells', 'answer', 5)")

    def test_learns(self):
        self.assertEqual(repr(learns(self.build)), "[(0, 1)]")

    def test_fewest(self):
        self.assertEqual(repr(fewest(self.build, [0])), "[['cut']]")

    def test_build_text(self):
        text = "task 1 0\ntask 0 2\npage 1\nlocks 0\nframes 0\ndisk 0\ncosts 1 0 0\nslots\n  0 2\n  1 1\nright 0 read 0\nright 1 write 0"
        self.assertEqual(build_text(self.build), text)
        self.assertTrue(read_build(text) == self.build)


if __name__ == "__main__":
    unittest.main()
