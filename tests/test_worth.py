"""[18]: the calls worth trying, in their order."""

import unittest

from tests.helper import has_own_lists, led, spoil, start

PASS = ("pass",)
LAST = [("sleep", 1), ("sleep", 2), PASS]


def calls(rights, acts=(), **changes):
    """The calls worth trying of task 0, behind acts."""
    return led(start(rights=rights, plan=("levels", 8), **changes), *acts)[1].calls()


class TestCalls(unittest.TestCase):
    def test_without_rights(self):
        self.assertEqual(calls([[], [("read", 0)]]), LAST)

    def test_each_right(self):
        expected = {
            ("read", 1): [("read", 1)],
            ("write", 0): [("write", 0, 0), ("write", 0, 1)],
            ("send", 0): [("send", 0, 0), ("send", 0, 1)],
            ("take", 0): [("take", 0), ("wait", 0)],
            ("lock", 0): [("lock", 0), ("free", 0)],
            ("hand", 1): [("hand", 1, ("hand", 1))],
            ("strip", 0): [("strip", 0, ("strip", 0))],
            ("strip", 1): [("strip", 1, ("read", 0)), ("strip", 1, ("seek", 0)), ("strip", 1, ("write", 1))],
            ("seek", 0): [("seek", 0), ("seek", 1), ("seek", 2)],
        }
        for right, found in expected.items():
            with self.subTest(f"{right}"):
                rights = [[right], [("read", 0), ("seek", 0), ("write", 1)]]
                self.assertEqual(calls(rights, disk=3), [*found, *LAST])

    def test_the_order(self):
        row = [("hand", 0), ("lock", 0), ("read", 0), ("seek", 0), ("send", 0), ("strip", 1), ("take", 0), ("write", 1)]
        self.assertEqual(calls([row, [("lock", 0), ("write", 0)]], disk=2, frames=1), [
            *[("hand", 0, right) for right in row],
            ("lock", 0), ("free", 0), ("read", 0), ("seek", 0), ("seek", 1), ("send", 0, 0), ("send", 0, 1),
            ("strip", 1, ("lock", 0)), ("strip", 1, ("write", 0)), ("take", 0), ("wait", 0),
            ("write", 1, 0), ("write", 1, 1), ("get",), ("sleep", 1), ("sleep", 2), PASS,
        ])

    def test_frames(self):
        self.assertEqual(calls([[], []], frames=0), LAST)
        self.assertEqual(calls([[], []], frames=1), [("get",), *LAST])
        self.assertEqual(calls([[], []], [("get",)], frames=1), [("get",), ("give",), *LAST])
        moment = led(start(frames=1), ("get",))[1]
        self.assertEqual(moment.due(), 1)
        self.assertEqual(moment.calls(), [("get",), *LAST])

    def test_locks_that_are_held_without_the_right(self):
        rights = [[("lock", 0), ("lock", 1), ("strip", 0)], []]
        acts = [("lock", 1), ("lock", 0), ("strip", 0, ("lock", 1)), ("strip", 0, ("lock", 0))]
        strip = ("strip", 0, ("strip", 0))
        self.assertEqual(calls(rights, acts, locks=2), [strip, *LAST, ("free", 0), ("free", 1)])
        held = [("lock", 0), ("free", 0), ("strip", 0, ("lock", 0)), strip, *LAST, ("free", 1)]
        self.assertEqual(calls(rights, acts[:3], locks=2), held)
        acts = [("strip", 0, ("lock", 1)), ("strip", 0, ("lock", 0))]
        self.assertEqual(calls(rights, acts, locks=2), [strip, *LAST])

    def test_rights_of_now(self):
        rights = [[("hand", 0), ("strip", 0)], []]
        self.assertEqual(calls(rights, [("strip", 0, ("hand", 0))]), [("strip", 0, ("strip", 0)), *LAST])

    def test_the_task_that_the_letter_lets_have_its_turn(self):
        moment = start(tasks=[(0, 0), (1, 1)], rights=[[("read", 0)], [("take", 0)]], outside=(0, 1))
        moment = led(moment, ("wait", 0))[1]
        self.assertEqual(moment.calls(), [("read", 0), *LAST])
        self.assertEqual(moment.calls(0), [("take", 0), ("wait", 0), *LAST])

    def test_no_turn(self):
        moment = start(costs=(2, 0, 1))
        self.assertEqual(moment.calls(), [])
        self.assertEqual(led(moment, None, PASS)[1].calls(), [])

    def test_the_lists_are_new(self):
        moment = start(rights=[[("strip", 0), ("take", 0)], []])
        kept = list(moment.calls())
        spoil(moment.calls())
        self.assertEqual(moment.calls(), kept)
        self.assertEqual(start().calls(), LAST)
        self.assertTrue(has_own_lists(moment.calls()))


if __name__ == "__main__":
    unittest.main()
