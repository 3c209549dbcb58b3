"""[5], [20], [21]: the graph of a moment, and what can ever come."""

import unittest

from hushkernel.errors import NoMost, NoWatch, TooMany
from hushkernel.graphs import ever, graph, watched
from hushkernel.moments import Moment, played

from tests.helper import has_own_lists, led, odd_values, spoil, start

PASS = ("pass",)
ONE_SLOT = ("slots", [(0, 1)])

# A few small kernels; each graph has at most some hundred moments.
SMALL = [
    dict(plan=ONE_SLOT),
    dict(plan=ONE_SLOT, rights=[[("write", 0)], []], outside=(0, 2)),
    dict(plan=("slots", [(0, 1), (1, 1)]), rights=[[("lock", 0)], []]),
    dict(plan=("levels", 1), tasks=[(0, 0), (1, 1)], costs=(1, 0, 1)),
    dict(plan=("slots", [(0, 2)]), rights=[[("take", 0)], []], outside=(0, 1), costs=(1, 1, 0)),
]


def acts_of(moment):
    """The acts that are tried at a moment, in their order."""
    outside = moment.build().outside()
    may = outside is not None and moment.running()[3] % outside[1] == 0
    found = []
    for letter in ([None, 0, 1] if may else [None]):
        for call in moment.calls(letter) if moment.due(letter) is not None else [None]:
            found.append((letter, call))
    return found


class TestGraph(unittest.TestCase):
    def test_a_graph_by_hand(self):
        """Task 0 alone has turns: sleep 1, sleep 2, pass; while it sleeps for two ticks, there is none."""
        rows = graph(start(plan=ONE_SLOT))
        shapes = [moment.shape()[0:2] + moment.shape()[9:] for moment, _ in rows]
        asleep, two, ready = ("asleep", 1), ("asleep", 2), ("ready",)
        self.assertEqual(shapes, [
            ((ready, ready), (None, None), (None, 0, 0, 0)),
            ((asleep, ready), (None, None), (0, 0, 1, 0)),
            ((two, ready), (None, None), (0, 0, 1, 0)),
            ((ready, ready), ("yes", None), (0, 0, 1, 0)),
            ((asleep, ready), (None, None), (0, 0, 0, 0)),
        ])
        three = [(None, ("sleep", 1), 1), (None, ("sleep", 2), 2), (None, PASS, 3)]
        self.assertEqual([behind for _, behind in rows], [three, three, [(None, None, 4)], three, three])

    def test_graphs_as_they_are_told(self):
        for changes in SMALL:
            rows = graph(start(**changes))
            moments = [moment for moment, _ in rows]
            self.assertTrue(moments[0] == start(**changes))
            met = 1
            for moment, behind in rows:
                self.assertIsInstance(moment, Moment)
                self.assertEqual([(letter, call) for letter, call, _ in behind], acts_of(moment))
                for letter, call, index in behind:
                    self.assertTrue(moments[index] == moment.tick(letter, call)[1])
                    self.assertLessEqual(index, met)
                    met = max(met, index + 1)
            self.assertEqual(met, len(rows))
            self.assertEqual(len({moment.shape() for moment in moments}), len(rows))

    def test_letters_come_ahead_of_calls(self):
        behind = graph(start(plan=ONE_SLOT, outside=(0, 2)))[0][1]
        three = [("sleep", 1), ("sleep", 2), PASS]
        self.assertEqual([act[:2] for act in behind], [(letter, call) for letter in (None, 0, 1) for call in three])

    def test_from_a_later_moment(self):
        rows = graph(start(plan=ONE_SLOT))
        later = graph(rows[2][0])
        self.assertTrue(later[0][0] == rows[2][0])
        self.assertEqual(len(later), 4)

    def test_the_moment_alone(self):
        moment = start(tasks=[(0, 1), (1, 1)], rights=[[("take", 0)], [("take", 0)]])
        moment = led(moment, ("wait", 0), ("wait", 0), None)[1]
        rows = graph(moment, most=1)
        self.assertTrue(rows[0][0] == moment)
        self.assertEqual([behind for _, behind in rows], [[(None, None, 0)]])

    def test_no_most(self):
        for most in [*odd_values(), 3001, 0, -1]:
            if repr(most) not in [str(number) for number in range(1, 3001)]:
                with self.subTest(f"{most!r}"), self.assertRaises(NoMost):
                    graph(start(plan=ONE_SLOT), most=most)
        self.assertEqual(len(graph(start(plan=ONE_SLOT), most=3000)), 5)

    def test_too_many_at_the_exact_bound(self):
        for changes in SMALL:
            many = len(graph(start(**changes)))
            self.assertEqual(len(graph(start(**changes), most=many)), many)
            with self.assertRaises(TooMany) as caught:
                graph(start(**changes), most=many - 1)
            self.assertEqual(caught.exception.most, many - 1)

    def test_five_hundred_without_words(self):
        changes = dict(plan=("slots", [(0, 1), (1, 1)]), rights=[[("write", 0), ("write", 1)], []], ports=[2],
                       outside=(0, 4))
        many = len(graph(start(**changes), most=3000))
        self.assertGreater(many, 500)
        with self.assertRaises(TooMany) as caught:
            graph(start(**changes))
        self.assertEqual(caught.exception.most, 500)
        with self.assertRaises(TooMany) as caught:
            ever(start(**changes), ("stuck",))
        self.assertEqual(caught.exception.most, 500)

    def test_the_lists_are_new(self):
        moment = start(plan=ONE_SLOT)
        rows = graph(moment)
        self.assertTrue(has_own_lists(rows))
        spoil(rows)
        self.assertEqual(len(graph(moment)), 5)
        self.assertTrue(moment == start(plan=ONE_SLOT))


# Two locks, and letters from outside: more than a thousand moments.
LARGE = dict(
    plan=("slots", [(0, 1), (1, 1)]), locks=2, ports=[2], outside=(0, 2),
    rights=[[("lock", 0), ("lock", 1)], [("lock", 0), ("take", 0)]],
)


class TestLarge(unittest.TestCase):
    def test_more_than_a_thousand_moments(self):
        moment = start(**LARGE)
        rows = graph(moment, most=3000)
        many = len(rows)
        self.assertGreater(many, 1000)
        self.assertEqual(len(graph(moment, most=many)), many)
        with self.assertRaises(TooMany) as caught:
            graph(moment, most=many - 1)
        self.assertEqual(caught.exception.most, many - 1)
        self.assertEqual(ever(moment, ("letters", 0, 2), most=3000)[0], "acts")
        self.assertEqual(ever(moment, ("page", 0, 1), most=3000), ("never", many))
        with self.assertRaises(TooMany):
            ever(moment, ("page", 0, 0), most=many - 1)

    def test_a_graph_beyond_three_thousand(self):
        rights = [[("lock", 0), ("lock", 1), ("seek", 0)], [("lock", 0), ("take", 0)]]
        moment = start(**{**LARGE, "disk": 4, "rights": rights, "plan": ("levels", 8)})
        with self.assertRaises(TooMany) as caught:
            graph(moment, most=3000)
        self.assertEqual(caught.exception.most, 3000)


# A kernel for the watches, and what is handed in as one there.
WATCHES = dict(
    tasks=[(0, 0), (1, 0), (1, 0)], ports=[1, 2], locks=2, frames=1, plan=("levels", 1),
    rights=[[("read", 0), ("write", 0)], [("lock", 1), ("send", 1)], [("take", 0)]],
)
RIGHT = [
    ("page", 0, 0), ("page", 1, 1), ("letters", 0, 0), ("letters", 1, 2), ("letters", 0, 2), ("holds", 2, 1),
    ("has", 2, ("write", 1)), ("has", 0, ("hand", 2)), ("frames", 0, 0), ("frames", 2, 3), ("waits", 2), ("stuck",),
]
WRONG = [
    ("page", 2, 0), ("page", -1, 0), ("page", 0, 2), ("page", True, 0), ("page", 0, False), ("page", 0), ("page", 0, 0, 0),
    ["page", 0, 0], ("letters", 2, 0), ("letters", 0, 3), ("letters", 0, -1), ("letters", 0, True), ("letters", 0),
    ("holds", 3, 0), ("holds", 0, 2), ("holds", 0, None), ("holds", None, 0), ("holds", 0), ("has", 3, ("read", 0)),
    ("has", 0, ("read", 2)), ("has", 0, ["read", 0]), ("has", 0, ("seek", 0)), ("has", 0, "read"), ("has", 0),
    ("has", 0, ("write", 0, 0)), ("frames", 0, 4), ("frames", 0, -1), ("frames", 3, 0), ("frames", 0, True), ("frames", 0),
    ("waits", 3), ("waits", True), ("waits",), ("waits", 0, 0), ("stuck", 0), ("stuck", None), ("stick",), ("",), "stuck",
    ("read", 0), ("pass",), (("stuck",),), (None,),
]


class TestWatched(unittest.TestCase):
    def test_each_watch(self):
        before = start(**WATCHES)
        after = led(before, ("write", 0, 1), ("send", 1, 1), ("wait", 0), ("get",), ("lock", 1))[1]
        for watch, was, now in [
            (("page", 0, 0), True, False), (("page", 0, 1), False, True), (("page", 1, 1), True, True),
            (("letters", 1, 0), True, False), (("letters", 1, 1), False, True), (("letters", 1, 2), False, False),
            (("letters", 0, 0), True, True), (("letters", 0, 2), False, False),
            (("holds", 1, 1), False, True), (("holds", 0, 1), False, False), (("holds", 1, 0), False, False),
            (("has", 0, ("write", 0)), True, True), (("has", 0, ("write", 1)), False, False),
            (("has", 1, ("write", 0)), False, False), (("frames", 0, 0), True, False), (("frames", 0, 1), False, True),
            (("frames", 1, 0), True, True), (("frames", 0, 3), False, False),
            (("waits", 2), False, True), (("waits", 0), False, False), (("stuck",), False, False),
        ]:
            with self.subTest(f"{watch}"):
                self.assertIs(watched(before, watch), was)
                self.assertIs(watched(after, watch), now)

    def test_rights_that_are_handed_on(self):
        moment = start(rights=[[("hand", 1), ("read", 0)], []])
        self.assertIs(watched(led(moment, ("hand", 1, ("read", 0)))[1], ("has", 1, ("read", 0))), True)

    def test_waits_and_stuck(self):
        moment = start(rights=[[("lock", 0)], [("lock", 0), ("take", 0)]])
        moment = led(moment, ("lock", 0), ("lock", 0))[1]
        self.assertIs(watched(moment, ("waits", 1)), True)
        self.assertIs(watched(moment, ("stuck",)), False)
        moment = led(moment, ("sleep", 2))[1]
        self.assertIs(watched(moment, ("waits", 0)), False)
        self.assertIs(watched(moment, ("stuck",)), False)
        moment = start(rights=[[("take", 0)], [("lock", 0), ("take", 0)]])
        moment = led(moment, ("wait", 0), ("wait", 0))[1]
        self.assertIs(watched(moment, ("stuck",)), True)

    def test_locked_and_waiting_together_are_stuck(self):
        moment = start(rights=[[("lock", 0), ("take", 0)], [("lock", 0)]])
        moment = led(moment, ("lock", 0), ("lock", 0), ("wait", 0))[1]
        self.assertIs(watched(moment, ("stuck",)), True)

    def test_what_is_a_watch(self):
        for watch in RIGHT:
            with self.subTest(f"{watch}"):
                self.assertIsInstance(watched(start(**WATCHES), watch), bool)

    def test_no_watch(self):
        for watch in [*WRONG, *odd_values()]:
            if watch != ("stuck",):
                with self.subTest(f"{watch!r}"), self.assertRaises(NoWatch):
                    watched(start(**WATCHES), watch)
                with self.subTest(f"{watch!r}"), self.assertRaises(NoWatch):
                    ever(start(**WATCHES), watch)


class TestEver(unittest.TestCase):
    def test_at_once(self):
        self.assertEqual(ever(start(plan=ONE_SLOT), ("page", 0, 0)), ("acts", []))

    def test_the_shortest_row(self):
        moment = start(plan=ONE_SLOT, rights=[[("write", 0), ("write", 1)], []])
        self.assertEqual(ever(moment, ("page", 0, 1)), ("acts", [(None, ("write", 0, 1))]))
        self.assertEqual(ever(moment, ("page", 1, 0)), ("acts", [(None, ("write", 1, 0))]))
        moment = start(plan=("slots", [(0, 1), (1, 2)]), rights=[[], [("write", 0)]])
        self.assertEqual(ever(moment, ("page", 0, 1)), ("acts", [(None, ("sleep", 1)), (None, ("write", 0, 1))]))

    def test_letters_from_outside(self):
        moment = start(ports=[2], outside=(0, 2), plan=ONE_SLOT)
        acts = [(0, ("sleep", 1)), (None, ("sleep", 1)), (0, ("sleep", 1))]
        self.assertEqual(ever(moment, ("letters", 0, 2)), ("acts", acts))

    def test_ticks_without_a_turn(self):
        moment = start(tasks=[(0, 0), (1, 1)], costs=(2, 0, 1), rights=[[], [("take", 0)]])
        self.assertEqual(ever(moment, ("waits", 1)), ("acts", [(None, None), (None, ("wait", 0))]))

    def test_never(self):
        moment = start(plan=ONE_SLOT)
        for watch in (("page", 0, 1), ("letters", 0, 2), ("frames", 0, 3), ("stuck",), ("holds", 0, 0), ("waits", 1)):
            self.assertEqual(ever(moment, watch), ("never", 5))

    def test_as_the_graph_tells(self):
        """The first moment of the graph at which it is so, by the acts that first met the moments."""
        watches = [("waits", 0), ("page", 0, 1), ("letters", 0, 1), ("holds", 0, 0), ("stuck",), ("page", 1, 0)]
        for changes in SMALL:
            rows = graph(start(**changes))
            ways = {0: []}
            for at, (_, behind) in enumerate(rows):
                for letter, call, index in behind:
                    ways.setdefault(index, [*ways[at], (letter, call)])
            for watch in watches:
                found = [ways[at] for at, (moment, _) in enumerate(rows) if watched(moment, watch)]
                expected = ("acts", found[0]) if found else ("never", len(rows))
                self.assertEqual(ever(start(**changes), watch), expected)
                if found:
                    self.assertIs(watched(played(start(**changes), found[0])[1], watch), True)
                    self.assertEqual(len(found[0]), min(len(row) for row in found))

    def test_the_order_of_the_errors(self):
        moment = start(plan=ONE_SLOT)
        for value in odd_values():
            with self.assertRaises(NoWatch):
                ever(moment, ("stuck", 0), most=value)
            if repr(value) not in [str(number) for number in range(1, 3001)]:
                with self.subTest(f"{value!r}"), self.assertRaises(NoMost):
                    ever(moment, ("page", 0, 0), most=value)
        with self.assertRaises(NoMost):
            ever(moment, ("stuck",), most=3001)

    def test_too_many_whatever_it_returns_otherwise(self):
        moment = start(plan=ONE_SLOT)
        self.assertEqual(ever(moment, ("page", 0, 0), most=5), ("acts", []))
        for watch in (("page", 0, 0), ("stuck",), ("page", 0, 1)):
            with self.assertRaises(TooMany) as caught:
                ever(moment, watch, most=4)
            self.assertEqual(caught.exception.most, 4)


if __name__ == "__main__":
    unittest.main()
