"""[41]: names, arguments, places and the examples of the interface, for the modules that there are."""

import inspect
import unittest

from hushkernel import builds, graphs, moments
from hushkernel.builds import Build
from hushkernel.moments import Moment, first, played

from tests.helper import some

FUNCTIONS = {
    moments: {"first": "(build)", "played": "(moment, acts)"},
    graphs: {
        "graph": "(moment, *, most=500)", "watched": "(moment, watch)", "ever": "(moment, watch, *, most=500)",
    },
}
METHODS = {
    Build: {
        **{name: "(self)" for name in some()}, "sides": "(self)",
        **{name: "(self)" for name in ("wipe", "pad", "lend", "share")}, "__eq__": "(self, other)",
        "__init__": "(self, tasks, pages, ports, locks, frames, disk, rights, lines, costs, plan, outside, *, "
                    "wipe=False, pad=False, lend=False, share=False)",
    },
    Moment: {
        "build": "(self)", "status": "(self, task)", "answer": "(self, task)", "rights": "(self, task)",
        "held": "(self, task)", "pages": "(self)", "ports": "(self)", "locks": "(self)", "lines": "(self)",
        "head": "(self)", "running": "(self)", "due": "(self, outside=None)",
        "tick": "(self, outside=None, call=None)", "calls": "(self, outside=None)", "veiled": "(self, tasks)",
        "shape": "(self)", "__eq__": "(self, other)",
    },
}


class TestNames(unittest.TestCase):
    def test_functions(self):
        for module, functions in FUNCTIONS.items():
            for name, arguments in functions.items():
                with self.subTest(name):
                    function = getattr(module, name)
                    self.assertEqual(function.__module__, module.__name__)
                    self.assertEqual(str(inspect.signature(function)), arguments)

    def test_classes(self):
        self.assertEqual((Build.__module__, Moment.__module__), (builds.__name__, moments.__name__))
        for owner, methods in METHODS.items():
            for name, arguments in methods.items():
                with self.subTest(f"{owner.__name__}.{name}"):
                    self.assertIn(name, vars(owner))
                    self.assertEqual(str(inspect.signature(vars(owner)[name])), arguments)


class TestExamples(unittest.TestCase):
    def setUp(self):
        self.build = Build(
            [(1, 0), (0, 2)], [1], [], 0, 0, 0, [[("read", 0)], [("write", 0)]], [None], (1, 0, 0),
            ("slots", [(0, 2), (1, 1)]), None,
        )

    def test_sides(self):
        self.assertEqual(repr(self.build.sides()), "[0, 1]")

    def test_calls(self):
        calls = "[('read', 0), ('sleep', 1), ('sleep', 2), ('pass',)]"
        self.assertEqual(repr(first(self.build).calls()), calls)

    def test_played(self):
        seen = played(first(self.build), [(None, ("read", 0)), (None, ("pass",))])[0]
        self.assertEqual(repr(seen), "[(0, None), (0, '1')]")


if __name__ == "__main__":
    unittest.main()
