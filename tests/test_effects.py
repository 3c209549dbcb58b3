"""[15], [16]: what the calls do, which answers they get, and what they cost."""

import unittest

from tests.helper import led, start

PASS = ("pass",)


def done(call, acts=(), **changes):
    """The moment behind a call of task 0, which has all turns for a while."""
    return led(start(**{"plan": ("levels", 8), **changes}), *acts, call)[1]


def answer(call, acts=(), **changes):
    return done(call, acts, **changes).answer(0)


def cost(call, acts=(), **changes):
    """How many ticks a call costs, behind acts of a single tick each."""
    return done(call, acts, **changes).running()[2]


class TestPages(unittest.TestCase):
    def test_read(self):
        self.assertEqual(answer(("read", 0), rights=[[("read", 0), ("read", 1)], []]), "0")
        self.assertEqual(answer(("read", 1), rights=[[("read", 0), ("read", 1)], []]), "1")
        self.assertEqual(answer(("read", 1), rights=[[("read", 0), ("write", 1)], [("read", 1)]]), "no")

    def test_write(self):
        for value in (0, 1):
            moment = done(("write", 0, value), rights=[[("write", 0)], []])
            self.assertEqual((moment.answer(0), moment.pages()), ("yes", [value, 1]))
        moment = done(("write", 0, 1), rights=[[("read", 0), ("write", 1)], [("write", 0)]])
        self.assertEqual((moment.answer(0), moment.pages()), ("no", [0, 1]))


class TestPorts(unittest.TestCase):
    def test_send(self):
        moment = done(("send", 0, 1), rights=[[("send", 0)], []])
        self.assertEqual((moment.answer(0), moment.ports()), ("yes", [[1]]))
        moment = done(("send", 0, 1), rights=[[("take", 0)], [("send", 0)]])
        self.assertEqual((moment.answer(0), moment.ports()), ("no", [[]]))

    def test_send_to_a_full_port(self):
        moment = done(("send", 0, 0), [("send", 0, 1)], rights=[[("send", 0)], []])
        self.assertEqual((moment.answer(0), moment.ports()), ("no", [[1]]))
        moment = done(("send", 0, 0), [("send", 0, 1)], rights=[[("send", 0)], []], ports=[2])
        self.assertEqual((moment.answer(0), moment.ports()), ("yes", [[1, 0]]))

    def test_send_to_a_task_that_waits(self):
        rights = [[("send", 0)], [("take", 0)], [("take", 0)]]
        moment = start(tasks=[(0, 0), (1, 1), (1, 1)], rights=rights)
        moment = led(moment, ("wait", 0), ("wait", 0), ("send", 0, 1))[1]
        self.assertEqual([moment.status(task) for task in range(3)], [("ready",), ("ready",), ("waits", 0)])
        self.assertEqual([moment.answer(task) for task in range(3)], ["yes", "1", None])
        self.assertEqual(moment.ports(), [[]])

    def test_take(self):
        rights = [[("send", 0), ("take", 0)], []]
        for word in ("take", "wait"):
            moment = done((word, 0), [("send", 0, 1), ("send", 0, 0)], rights=rights, ports=[2])
            self.assertEqual((moment.answer(0), moment.ports()), ("1", [[0]]))
            moment = done((word, 0), [("send", 0, 0)], rights=rights)
            self.assertEqual((moment.answer(0), moment.ports()), ("0", [[]]))
            self.assertEqual(answer((word, 0), [("send", 0, 0)], rights=[[("send", 0)], [("take", 0)]]), "no")
        self.assertEqual(answer(("take", 0), rights=rights), "empty")

    def test_wait(self):
        moment = done(("wait", 0), rights=[[("take", 0)], []])
        self.assertEqual((moment.status(0), moment.answer(0)), (("waits", 0), None))
        moment = done(("wait", 0), rights=[[("send", 0)], []])
        self.assertEqual((moment.status(0), moment.answer(0)), (("ready",), "no"))

    def test_one_port_of_two(self):
        moment = done(("send", 1, 1), rights=[[("send", 1)], []], ports=[1, 1])
        self.assertEqual(moment.ports(), [[], [1]])
        moment = done(("wait", 1), rights=[[("take", 1)], []], ports=[1, 1])
        self.assertEqual(moment.status(0), ("waits", 1))


class TestLocks(unittest.TestCase):
    def setUp(self):
        """Three tasks that may all lock the lock; each has its turn in turn."""
        self.moment = start(tasks=[(0, 0), (1, 0), (1, 0)], locks=1, rights=[[("lock", 0)]] * 3)

    def test_a_free_lock(self):
        moment = led(self.moment, ("lock", 0))[1]
        self.assertEqual((moment.answer(0), moment.locks()), ("yes", [(0, ())]))

    def test_without_the_right(self):
        self.assertEqual(answer(("lock", 0), rights=[[("read", 0)], [("lock", 0)]]), "no")
        self.assertEqual(done(("lock", 0)).locks(), [(None, ())])

    def test_a_lock_that_it_holds_already(self):
        moment = led(self.moment, ("lock", 0), PASS, PASS, ("lock", 0))[1]
        self.assertEqual((moment.answer(0), moment.locks()), ("no", [(0, ())]))

    def test_those_who_wait_come_one_after_another(self):
        moment = led(self.moment, ("lock", 0), PASS, ("lock", 0), PASS, ("lock", 0))[1]
        self.assertEqual((moment.status(2), moment.answer(2)), (("locked", 0), None))
        self.assertEqual(moment.locks(), [(0, (2, 1))])
        moment = led(moment, ("free", 0))[1]
        self.assertEqual(moment.locks(), [(2, (1,))])
        self.assertEqual((moment.status(2), moment.answer(2), moment.answer(0)), (("ready",), "yes", "yes"))
        self.assertEqual(moment.status(1), ("locked", 0))
        seen, moment = led(moment, ("free", 0), ("free", 0), ("free", 0))
        self.assertEqual(seen, [(2, "yes"), (0, "yes"), (1, "yes")])
        self.assertEqual(moment.locks(), [(None, ())])
        self.assertEqual((moment.answer(0), moment.answer(1)), ("no", "yes"))

    def test_free_without_holding(self):
        self.assertEqual(answer(("free", 0), rights=[[("lock", 0)], []]), "no")
        moment = led(self.moment, ("lock", 0), ("free", 0))[1]
        self.assertEqual((moment.answer(1), moment.locks()), ("no", [(0, ())]))

    def test_free_needs_no_right(self):
        rights = [[("lock", 0), ("strip", 0)], []]
        moment = done(("free", 0), [("lock", 0), ("strip", 0, ("lock", 0))], rights=rights)
        self.assertEqual((moment.answer(0), moment.locks()), ("yes", [(None, ())]))

    def test_lock_of_the_own_lock_without_the_right(self):
        rights = [[("lock", 0), ("strip", 0)], []]
        self.assertEqual(answer(("lock", 0), [("lock", 0), ("strip", 0, ("lock", 0))], rights=rights), "no")


class TestRights(unittest.TestCase):
    def test_hand(self):
        moment = done(("hand", 1, ("read", 0)), rights=[[("hand", 1), ("read", 0)], [("lock", 0), ("write", 1)]])
        self.assertEqual(moment.answer(0), "yes")
        self.assertEqual(moment.rights(0), [("hand", 1), ("read", 0)])
        self.assertEqual(moment.rights(1), [("lock", 0), ("read", 0), ("write", 1)])

    def test_hand_needs_both_rights(self):
        for row in ([("hand", 1)], [("read", 0)], [("hand", 0), ("read", 0)], [("hand", 1), ("read", 1)]):
            moment = done(("hand", 1, ("read", 0)), rights=[row, []])
            self.assertEqual((moment.answer(0), moment.rights(1)), ("no", []))

    def test_hand_what_the_other_has(self):
        moment = done(("hand", 1, ("read", 0)), rights=[[("hand", 1), ("read", 0)], [("read", 0)]])
        self.assertEqual((moment.answer(0), moment.rights(1)), ("yes", [("read", 0)]))

    def test_hand_to_itself(self):
        moment = done(("hand", 0, ("read", 0)), rights=[[("hand", 0), ("read", 0)], []])
        self.assertEqual((moment.answer(0), moment.rights(0)), ("yes", [("hand", 0), ("read", 0)]))
        moment = done(("hand", 0, ("read", 1)), rights=[[("hand", 0), ("read", 0)], []])
        self.assertEqual((moment.answer(0), moment.rights(0)), ("no", [("hand", 0), ("read", 0)]))

    def test_hand_on_the_right_to_hand(self):
        moment = done(("hand", 1, ("hand", 1)), rights=[[("hand", 1)], []])
        self.assertEqual(moment.rights(1), [("hand", 1)])

    def test_more_than_eight_rights(self):
        row = [("hand", 0), ("hand", 1), ("lock", 0), ("read", 0), ("read", 1), ("send", 0), ("strip", 0), ("take", 0)]
        moment = done(("hand", 1, ("write", 0)), rights=[[("hand", 1), ("write", 0)], row])
        self.assertEqual((moment.answer(0), moment.rights(1)), ("yes", [*row, ("write", 0)]))

    def test_strip(self):
        moment = done(("strip", 1, ("read", 0)), rights=[[("strip", 1)], [("read", 0), ("write", 0)]])
        self.assertEqual((moment.answer(0), moment.rights(1)), ("yes", [("write", 0)]))

    def test_strip_without(self):
        for rights in ([[("hand", 1)], [("read", 0)]], [[("strip", 0)], [("read", 0)]]):
            moment = done(("strip", 1, ("read", 0)), rights=rights)
            self.assertEqual((moment.answer(0), moment.rights(1)), ("no", [("read", 0)]))
        moment = done(("strip", 1, ("read", 0)), rights=[[("read", 0), ("strip", 1)], [("read", 1)]])
        self.assertEqual((moment.answer(0), moment.rights(1)), ("no", [("read", 1)]))

    def test_strip_itself(self):
        moment = done(("strip", 0, ("strip", 0)), rights=[[("read", 0), ("strip", 0)], []])
        self.assertEqual((moment.answer(0), moment.rights(0)), ("yes", [("read", 0)]))

    def test_rights_of_the_build_are_those_at_first(self):
        moment = done(("strip", 0, ("read", 0)), rights=[[("read", 0), ("strip", 0)], []])
        self.assertEqual(moment.build().rights(), [[("read", 0), ("strip", 0)], []])

    def test_rights_are_looked_at_when_a_call_is_made(self):
        """Task 1 waits, task 2 is locked, task 3 holds the lock; task 0 takes their rights from them."""
        rights = [[("send", 0), ("strip", 1), ("strip", 2), ("strip", 3)], [("take", 0)], [("lock", 0)], [("lock", 0)]]
        plan = ("slots", [(3, 1), (1, 1), (2, 1), (0, 1)])
        moment = start(tasks=[(0, 0), (1, 0), (1, 0), (1, 0)], rights=rights, plan=plan)
        moment = led(moment, ("lock", 0), ("wait", 0), ("lock", 0), ("strip", 1, ("take", 0)))[1]
        moment = led(moment, PASS, None, None, ("strip", 2, ("lock", 0)))[1]
        moment = led(moment, PASS, None, None, ("strip", 3, ("lock", 0)))[1]
        self.assertEqual([moment.rights(task) for task in (1, 2, 3)], [[], [], []])
        self.assertEqual([moment.status(task) for task in (1, 2, 3)], [("waits", 0), ("locked", 0), ("ready",)])
        self.assertEqual(moment.locks(), [(3, (2,))])
        moment = led(moment, ("free", 0), None, PASS, ("send", 0, 1))[1]
        self.assertEqual(moment.locks(), [(2, ())])
        self.assertEqual((moment.answer(0), moment.answer(1)), ("yes", "1"))


class TestDiskAndFrames(unittest.TestCase):
    def test_seek(self):
        moment = done(("seek", 2), disk=3, rights=[[("seek", 0)], []])
        self.assertEqual((moment.answer(0), moment.head()), ("yes", 2))
        moment = done(("seek", 2), disk=3, rights=[[], [("seek", 0)]])
        self.assertEqual((moment.answer(0), moment.head()), ("no", 0))

    def test_get_and_give(self):
        moment = done(("get",), frames=2)
        self.assertEqual((moment.answer(0), moment.held(0)), ("yes", 1))
        moment = done(("get",), [("get",)], frames=2)
        self.assertEqual((moment.answer(0), moment.held(0)), ("yes", 2))
        moment = done(("get",), [("get",), ("get",)], frames=2)
        self.assertEqual((moment.answer(0), moment.held(0)), ("no", 2))
        moment = done(("give",), [("get",), ("get",)], frames=2)
        self.assertEqual((moment.answer(0), moment.held(0)), ("yes", 1))
        moment = done(("give",), frames=2)
        self.assertEqual((moment.answer(0), moment.held(0)), ("no", 0))
        self.assertEqual(answer(("get",), frames=0), "no")

    def test_frames_that_others_hold(self):
        moment = start(frames=1)
        moment = led(moment, ("get",), ("get",))[1]
        self.assertEqual((moment.answer(0), moment.answer(1), moment.held(1)), ("yes", "no", 0))
        moment = led(moment, ("give",), ("get",))[1]
        self.assertEqual((moment.held(0), moment.held(1)), (0, 1))

    def test_share(self):
        self.assertEqual(answer(("get",), frames=1, share=True), "no")
        self.assertEqual(answer(("get",), frames=2, share=True), "yes")
        self.assertEqual(answer(("get",), [("get",)], frames=3, share=True), "no")
        self.assertEqual(answer(("get",), [("get",)], frames=3, share=False), "yes")
        self.assertEqual(answer(("get",), frames=2, share=True, tasks=[(0, 0), (1, 0), (2, 0)]), "no")
        self.assertEqual(answer(("get",), frames=3, share=True, tasks=[(0, 0), (1, 0), (2, 0)]), "yes")

    def test_share_counts_all_tasks_of_the_side(self):
        moment = start(tasks=[(0, 0), (0, 0), (1, 0)], frames=3, share=True)
        moment = led(moment, ("get",), ("get",), ("get",))[1]
        self.assertEqual([moment.answer(task) for task in range(3)], ["yes", "no", "yes"])
        self.assertEqual([moment.held(task) for task in range(3)], [1, 0, 1])


class TestSleep(unittest.TestCase):
    def test_sleep_and_pass(self):
        for ticks in (1, 2):
            moment = done(("sleep", ticks))
            self.assertEqual((moment.status(0), moment.answer(0)), (("asleep", ticks), None))
        self.assertEqual(answer(PASS), "yes")


class TestCosts(unittest.TestCase):
    def test_plain_costs(self):
        rights = [[("hand", 1), ("lock", 0), ("send", 0), ("strip", 1), ("take", 0)], []]
        calls = [("send", 0, 1), ("take", 0), ("wait", 0), ("lock", 0), ("free", 0), ("hand", 1, ("lock", 0)),
                 ("strip", 1, ("lock", 0)), ("sleep", 1), ("get",), ("give",), PASS, ("seek", 1), ("read", 0),
                 ("write", 0, 0)]
        for plain in (1, 2, 3):
            for call in calls:
                with self.subTest(f"{call}"):
                    self.assertEqual(cost(call, rights=rights, costs=(plain, 3, 0), disk=4, frames=1), plain)

    def test_a_page_without_a_line(self):
        changes = dict(rights=[[("read", 0), ("write", 0)], []], costs=(1, 0, 0))
        self.assertEqual(cost(("read", 0), **changes), 1)
        changes["costs"] = (2, 3, 0)
        self.assertEqual(cost(("read", 0), **changes), 5)
        self.assertEqual(cost(("write", 0, 1), **changes), 5)
        self.assertEqual(done(("read", 0), **changes).lines(), [None, None])
        self.assertEqual(cost(("read", 0), [("read", 0), None, None, None, None], **changes), 5)

    def test_a_page_in_its_line(self):
        changes = dict(rights=[[("read", 0), ("read", 1), ("write", 0)], []], costs=(1, 2, 0))
        for lines, other, page in (([0, 0], 3, 1), ([0, 1], 1, 0), ([1, 1], 3, 1), ([0, None], 1, 0)):
            acts = [("read", 0), None, None, ("read", 1), None, None]
            with self.subTest(f"{lines}"):
                self.assertEqual(cost(("read", 0), lines=lines, **changes), 3)
                self.assertEqual(cost(("read", 0), acts[:3], lines=lines, **changes), 1)
                self.assertEqual(cost(("write", 0, 1), acts[:3], lines=lines, **changes), 1)
                self.assertEqual(cost(("read", 0), acts, lines=lines, **changes), other)
        self.assertEqual(done(("read", 0), lines=[0, 0], **changes).lines(), [0, None])
        self.assertEqual(done(("read", 1), lines=[0, 0], **changes).lines(), [1, None])
        self.assertEqual(done(("write", 0, 0), lines=[1, 0], **changes).lines(), [None, 0])
        acts = [("read", 0), None, None]
        self.assertEqual(done(("read", 1), acts, lines=[0, 0], **changes).lines(), [1, None])
        self.assertEqual(done(("read", 1), acts, lines=[0, 1], **changes).lines(), [0, 1])

    def test_without_the_right_the_lines_stay(self):
        moment = done(("read", 0), lines=[0, 0], rights=[[("write", 0)], []], costs=(1, 2, 0))
        self.assertEqual((moment.lines(), moment.running()[2]), ([None, None], 1))
        moment = done(("write", 0, 1), lines=[0, 0], rights=[[("read", 0)], []], costs=(1, 2, 0))
        self.assertEqual((moment.lines(), moment.running()[2]), ([None, None], 1))

    def test_seek_costs_the_way(self):
        changes = dict(rights=[[("seek", 0)], []], disk=4, costs=(1, 0, 0))
        for place in range(4):
            self.assertEqual(cost(("seek", place), **changes), 1 + place)
        for place, ticks in ((0, 3), (1, 2), (2, 1), (3, 2)):
            self.assertEqual(cost(("seek", place), [("seek", 2), None, None], **changes), ticks)

    def test_pad(self):
        for disk, miss, greatest in ((0, 0, 2), (0, 3, 5), (4, 1, 5), (2, 3, 5), (3, 1, 4), (3, 2, 4)):
            changes = dict(disk=disk, costs=(2, miss, 0), pad=True, lines=[0, None], rights=[[("read", 0)], []])
            for call in (PASS, ("sleep", 1), ("read", 0), ("read", 1), ("get",)):
                with self.subTest(f"{disk} {miss} {call}"):
                    self.assertEqual(cost(call, **changes), greatest)
            self.assertEqual(done(("read", 0), **changes).lines(), [0, None])
            self.assertEqual(done(("read", 0), **changes).running()[1], greatest)
        self.assertEqual(cost(("seek", 2), disk=3, rights=[[("seek", 0)], []], pad=True), 3)

    def test_the_greatest_cost_hangs_on_no_rights(self):
        """Nobody may seek or read, but each slot keeps four ticks free for it."""
        moment = start(plan=("slots", [(0, 4), (1, 3)]), disk=4)
        self.assertEqual(led(moment, PASS, None, None, None, None)[0], [(0, None), None, None, None, None])


if __name__ == "__main__":
    unittest.main()
