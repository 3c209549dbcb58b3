"""The program beside the plain kernel, over many builds of a seeded random source."""

import copy
import random
import unittest

from hushkernel.builds import Build
from hushkernel.errors import TooMany
from hushkernel.graphs import graph
from hushkernel.moments import first, played

from tests.helper import Plain, all_calls, small_parts, some_parts


def likely(rng, kernel, letter, calls):
    """A call for the next tick: mostly one worth trying."""
    worth = kernel.calls(letter)
    if not worth:
        return None
    return rng.choice(worth) if rng.random() < 0.8 else rng.choice(calls)


class TestTicks(unittest.TestCase):
    def test_ticks_of_many_builds(self):
        rng = random.Random(7)
        for _ in range(250):
            parts = some_parts(rng)
            kernel = Plain(parts)
            moment = first(Build(**parts))
            calls = all_calls(parts)
            acts = []
            for _ in range(70):
                self.assertEqual(moment.shape(), kernel.shape())
                letter = rng.choice(kernel.letters())
                self.assertEqual(moment.calls(letter), kernel.calls(letter))
                self.assertEqual(moment.due(letter), copy.deepcopy(kernel).begin(letter))
                call = likely(rng, kernel, letter, calls)
                acts.append((letter, call))
                seen, moment = moment.tick(letter, call)
                self.assertEqual(seen, kernel.tick(letter, call))
            self.assertEqual(played(first(Build(**parts)), acts)[1], moment)

    def test_calls_that_are_not_worth_trying(self):
        """Each does the same as ("pass",), but for its answer "no"."""
        rng = random.Random(8)
        for _ in range(60):
            parts = some_parts(rng)
            kernel = Plain(parts)
            moment = first(Build(**parts))
            calls = all_calls(parts)
            for _ in range(25):
                letter = rng.choice(kernel.letters())
                turn = moment.due(letter)
                if turn is not None:
                    passed = moment.tick(letter, ("pass",))[1]
                    for call in calls:
                        if call not in moment.calls(letter):
                            other = moment.tick(letter, call)[1]
                            self.assertEqual(other.answer(turn), "no")
                            self.assertEqual(other.veiled([turn]), passed.veiled([turn]))
                call = likely(rng, kernel, letter, calls)
                moment = moment.tick(letter, call)[1]
                kernel.tick(letter, call)


def plain_graph(parts, most):
    """The graph as [20] tells it, over the plain kernel; None if it has more than `most` moments."""
    kernels = [Plain(parts)]
    places = {kernels[0].shape(): 0}
    rows = []
    for kernel in kernels:
        behind = []
        for letter in kernel.letters():
            for call in kernel.calls(letter) or [None]:
                after = copy.deepcopy(kernel)
                after.tick(letter, call)
                if after.shape() not in places:
                    places[after.shape()] = len(kernels)
                    kernels.append(after)
                    if len(kernels) > most:
                        return None
                behind.append((letter, call, places[after.shape()]))
        rows.append((kernel.shape(), behind))
    return rows


class TestGraphs(unittest.TestCase):
    def test_graphs_of_many_builds(self):
        rng = random.Random(9)
        whole = 0
        for _ in range(60):
            parts = small_parts(rng)
            rows = plain_graph(parts, 120)
            start = first(Build(**parts))
            if rows is None:
                with self.assertRaises(TooMany) as caught:
                    graph(start, most=120)
                self.assertEqual(caught.exception.most, 120)
            else:
                whole += 1
                self.assertEqual([(moment.shape(), behind) for moment, behind in graph(start, most=120)], rows)
        self.assertGreater(whole, 10)


if __name__ == "__main__":
    unittest.main()
