"""[12], [13], [14]: what comes in a tick, who has its turn, and letters that come to a port."""

import unittest

from hushkernel.moments import Moment

from tests.helper import led, start

PASS = ("pass",)


def turns(moment, ticks, call=PASS):
    """Who has its turn in so many ticks, if every task makes this call."""
    found = []
    for _ in range(ticks):
        task = moment.due()
        found.append(task)
        moment = moment.tick(None, None if task is None else call)[1]
    return found


class TestOrderOfATick(unittest.TestCase):
    def test_a_letter_lets_a_task_have_its_turn_in_the_same_tick(self):
        moment = start(tasks=[(0, 1), (1, 0)], rights=[[("take", 0)], []], outside=(0, 1))
        seen, moment = led(moment, ("wait", 0), PASS)
        self.assertEqual((moment.status(0), moment.answer(0)), (("waits", 0), None))
        self.assertEqual((moment.due(), moment.due(0), moment.due(1)), (1, 0, 0))
        self.assertEqual(led(moment, [1, PASS])[0], [(0, "1")])
        self.assertEqual(led(moment, [0, PASS])[0], [(0, "0")])
        self.assertEqual(led(moment, PASS)[0], [(1, "yes")])

    def test_a_letter_is_there_ahead_of_the_call(self):
        moment = start(rights=[[("take", 0)], []], outside=(0, 1))
        self.assertEqual(moment.tick(1, ("take", 0))[1].answer(0), "1")
        self.assertEqual(moment.tick(0, ("wait", 0))[1].answer(0), "0")
        self.assertEqual(moment.tick(None, ("take", 0))[1].answer(0), "empty")

    def test_a_sleep_that_ends_lets_a_task_have_its_turn_in_the_same_tick(self):
        moment = start(tasks=[(0, 1), (1, 0)])
        seen, after = led(moment, ("sleep", 1), PASS)
        self.assertEqual(seen, [(0, None), (0, "yes")])
        seen, after = led(moment, ("sleep", 2), PASS, PASS)
        self.assertEqual(seen, [(0, None), (1, None), (0, "yes")])

    def test_sleep_goes_on_tick_by_tick_also_while_the_kernel_is_busy(self):
        moment = led(start(tasks=[(0, 1), (1, 0)], costs=(3, 0, 0)), ("sleep", 2))[1]
        self.assertEqual((moment.status(0), moment.answer(0)), (("asleep", 2), None))
        moment = moment.tick()[1]
        self.assertEqual((moment.status(0), moment.answer(0)), (("asleep", 1), None))
        moment = moment.tick()[1]
        self.assertEqual((moment.status(0), moment.answer(0)), (("ready",), "yes"))
        self.assertEqual(moment.due(), 0)

    def test_a_letter_goes_ahead_of_a_sleep(self):
        """The letter wakes task 1, the sleep task 0: both are ready in step 4."""
        moment = start(tasks=[(0, 1), (1, 1)], rights=[[], [("take", 0)]], plan=("levels", 1), outside=(0, 1))
        moment = led(moment, ("sleep", 2), ("wait", 0))[1]
        after = moment.tick(1, PASS)[1]
        self.assertEqual([after.status(0), after.status(1)], [("ready",), ("ready",)])
        self.assertEqual((after.answer(0), after.answer(1)), ("yes", "1"))

    def test_busy_for_as_many_ticks_as_the_call_costs(self):
        for plain in (1, 2, 3):
            moment = start(costs=(plain, 0, 0), plan=("levels", 8))
            expected = ([0] + [None] * (plain - 1)) * 2
            self.assertEqual(turns(moment, 2 * plain), expected)
            self.assertEqual(moment.tick(None, PASS)[1].running(), (0, plain, plain, 0))

    def test_the_answer_is_seen_once(self):
        moment = start(plan=("slots", [(0, 1), (1, 1)]))
        seen, moment = led(moment, PASS, PASS, ("sleep", 1), PASS, PASS)
        self.assertEqual(seen, [(0, None), (1, None), (0, "yes"), (1, "yes"), (0, "yes")])
        moment = led(start(rights=[[("take", 0)], []]), ("wait", 0))[1]
        self.assertIsNone(moment.answer(0))

    def test_letters_come_while_the_kernel_is_busy(self):
        moment = start(ports=[2], costs=(3, 0, 0), outside=(0, 1))
        moment = led(moment, [0, PASS], [1, None], [1, None])[1]
        self.assertEqual(moment.ports(), [[0, 1]])


class TestLevels(unittest.TestCase):
    def test_spans(self):
        self.assertEqual(turns(start(plan=("levels", 1)), 5), [0, 1, 0, 1, 0])
        self.assertEqual(turns(start(plan=("levels", 3)), 8), [0, 0, 0, 1, 1, 1, 0, 0])
        self.assertEqual(turns(start(tasks=[(0, 0), (1, 0), (2, 0)], plan=("levels", 2)), 8), [0, 0, 1, 1, 2, 2, 0, 0])

    def test_all_ticks_of_a_call_are_spent_at_once(self):
        moment = start(costs=(2, 0, 0), plan=("levels", 3))
        self.assertEqual(turns(moment, 10), [0, None, 0, None, 1, None, 1, None, 0, None])
        seen, moment = led(moment, PASS, None, PASS)
        self.assertEqual(moment.running(), (0, 4, 2, 0))

    def test_a_greater_level_goes_first(self):
        self.assertEqual(turns(start(tasks=[(0, 1), (1, 2)]), 4), [1, 1, 1, 1])
        self.assertEqual(turns(start(tasks=[(0, 1), (1, 2), (2, 0), (3, 2)]), 4), [1, 3, 1, 3])

    def test_one_candidate_has_spent_nothing_again(self):
        moment = start(tasks=[(0, 1), (1, 0)], plan=("levels", 2), costs=(1, 0, 2))
        self.assertEqual(turns(moment, 8), [None, None, 0, 0, 0, 0, 0, 0])
        moment = led(moment, None, None, PASS, PASS)[1]
        self.assertEqual(moment.running(), (0, 2, 1, 0))
        self.assertEqual(moment.tick(None, PASS)[1].running(), (0, 1, 1, 0))

    def test_the_next_one_is_behind_the_one_that_runs(self):
        moment = start(tasks=[(0, 0), (1, 0), (2, 0)], plan=("levels", 1))
        seen, moment = led(moment, PASS, ("sleep", 2), PASS, PASS, PASS, PASS)
        self.assertEqual([task for task, _ in seen], [0, 1, 2, 0, 1, 2])
        moment = start(tasks=[(0, 0), (1, 0), (2, 0)], plan=("levels", 8))
        seen, moment = led(moment, ("sleep", 2), ("sleep", 2), PASS, ("sleep", 2), PASS)
        self.assertEqual([task for task, _ in seen], [0, 1, 2, 2, 0])

    def test_a_switch_takes_its_ticks(self):
        one = start(costs=(1, 0, 1), plan=("levels", 2))
        self.assertEqual(turns(one, 9), [None, 0, 0, None, 1, 1, None, 0, 0])
        two = start(costs=(1, 0, 2), plan=("levels", 1))
        self.assertEqual(turns(two, 9), [None, None, 0, None, None, 1, None, None, 0])
        moment = two.tick()[1]
        self.assertEqual(moment.running(), (0, 0, 2, 0))

    def test_another_change_where_the_switched_task_is_no_candidate_any_more(self):
        """Task 0 wakes in the midst of the switch to task 1."""
        moment = start(tasks=[(0, 1), (1, 0)], costs=(1, 0, 2))
        moment = led(moment, None, None, ("sleep", 2), None)[1]
        self.assertEqual(moment.running(), (1, 0, 2, 0))
        self.assertEqual(moment.status(0), ("asleep", 1))
        moment = led(moment, None)[1]
        self.assertEqual((moment.status(0), moment.running()), (("ready",), (1, 0, 1, 0)))
        moment = led(moment, None)[1]
        self.assertEqual(moment.running(), (0, 0, 2, 0))
        self.assertEqual(led(moment, None, PASS)[0], [None, (0, "yes")])

    def test_nobody_runs_if_nobody_is_ready(self):
        moment = start(plan=("levels", 3))
        moment = led(moment, ("sleep", 2), ("sleep", 2))[1]
        self.assertEqual(moment.running(), (1, 1, 1, 0))
        moment = start(rights=[[("take", 0)], [("take", 0)]], plan=("levels", 3))
        moment = led(moment, ("wait", 0), ("wait", 0), None)[1]
        self.assertEqual(moment.running(), (None, 0, 0, 0))
        self.assertIsNone(moment.due())
        self.assertTrue(moment.tick()[1] == moment)

    def test_nobody_runs_only_once_the_kernel_is_not_busy(self):
        moment = start(rights=[[("take", 0)], [("take", 0)]], costs=(2, 0, 0), plan=("levels", 3))
        moment = led(moment, ("wait", 0), None, ("wait", 0), None)[1]
        self.assertEqual(moment.running(), (1, 2, 1, 0))
        self.assertEqual(moment.tick()[1].running(), (None, 0, 0, 0))


LENT = dict(
    tasks=[(0, 0), (1, 1), (0, 2), (1, 0)], locks=2, ports=[1], outside=(0, 1), plan=("levels", 1),
    rights=[[("lock", 0)], [("take", 0)], [("lock", 1), ("take", 0)], [("lock", 0), ("lock", 1)]],
)
CHAIN = [("wait", 0), ("wait", 0), ("lock", 1), ("lock", 0), ("lock", 0), [0, ("sleep", 2)], [1, ("lock", 1)]]


class TestLentLevels(unittest.TestCase):
    def test_through_a_chain_of_locks(self):
        """Task 2, of level 2, waits for task 3, and task 3 for task 0, while task 1, of level 1, is ready."""
        for lend, task in ((True, 0), (False, 1)):
            seen, moment = led(start(**LENT, lend=lend), *CHAIN)
            self.assertEqual([task for task, _ in seen], [2, 1, 3, 0, 3, 1, 2])
            self.assertEqual(moment.locks(), [(0, (3,)), (3, (2,))])
            self.assertEqual(moment.due(), task)

    def test_a_lent_level_is_given_back(self):
        moment = led(start(**LENT, lend=True), *CHAIN)[1]
        seen, moment = led(moment, ("free", 0))
        self.assertEqual(moment.locks(), [(3, ()), (3, (2,))])
        self.assertEqual(moment.due(), 3)
        self.assertEqual(led(moment, ("free", 1))[1].due(), 2)

    def test_to_the_holder_of_a_lock(self):
        """Task 1, of level 2, waits for task 0, of level 0; task 2 has level 1."""
        rights = [[("lock", 0)], [("lock", 0), ("take", 0)], [("take", 0)]]
        for lend, task in ((True, 0), (False, 2)):
            moment = start(tasks=[(0, 0), (1, 2), (0, 1)], rights=rights, outside=(0, 1), lend=lend)
            moment = led(moment, ("wait", 0), ("wait", 0), ("lock", 0), [0, ("lock", 0)])[1]
            self.assertEqual([moment.status(task)[0] for task in range(3)], ["ready", "locked", "waits"])
            self.assertEqual(moment.due(1), task)

    def test_a_lent_level_is_no_less_than_the_own_one(self):
        """Task 1, of level 0, waits for task 0, of level 1, which still goes ahead of task 2, of level 0."""
        moment = start(tasks=[(0, 1), (1, 0), (2, 0)], rights=[[("lock", 0)], [("lock", 0)], []], lend=True)
        moment = led(moment, ("lock", 0), ("sleep", 2), ("lock", 0), PASS)[1]
        self.assertEqual(moment.status(1), ("locked", 0))
        self.assertEqual(turns(moment, 3), [0, 0, 0])

    def test_a_ring_of_locks_is_stuck(self):
        moment = start(locks=2, rights=[[("lock", 0), ("lock", 1)]] * 2, lend=True)
        moment = led(moment, ("lock", 0), ("lock", 1), ("lock", 1), ("lock", 0))[1]
        self.assertEqual([moment.status(0), moment.status(1)], [("locked", 1), ("locked", 0)])
        self.assertIsNone(moment.due())
        self.assertEqual(moment.tick()[1].running(), (None, 0, 0, 0))

    def test_with_slots_levels_play_no_part(self):
        moment = start(tasks=[(0, 0), (1, 2)], plan=("slots", [(0, 1), (1, 1)]), lend=True)
        self.assertEqual(turns(moment, 4), [0, 1, 0, 1])


class TestSlots(unittest.TestCase):
    def test_the_rows_follow_one_another(self):
        moment = start(plan=("slots", [(1, 2), (0, 1), (1, 1)]))
        self.assertEqual(turns(moment, 8), [1, 1, 0, 1, 1, 1, 0, 1])

    def test_switch_ticks(self):
        moment = start(costs=(1, 0, 1), plan=("slots", [(0, 3), (1, 2)]))
        self.assertEqual(turns(moment, 10), [None, 0, 0, None, 1] * 2)
        moment = start(costs=(1, 0, 2), plan=("slots", [(0, 3), (1, 2)]))
        self.assertEqual(turns(moment, 10), [None, None, 0, None, None] * 2)

    def test_a_turn_needs_room_for_the_greatest_cost(self):
        moment = start(costs=(1, 1, 0), plan=("slots", [(0, 3), (1, 2)]))
        self.assertEqual(turns(moment, 10), [0, 0, None, 1, None] * 2)
        moment = start(costs=(1, 1, 0), disk=4, plan=("slots", [(0, 5), (1, 4)]))
        self.assertEqual(turns(moment, 9), [0, 0, None, None, None, 1, None, None, None])
        moment = start(costs=(2, 0, 1), plan=("slots", [(0, 4), (1, 3)]))
        self.assertEqual(turns(moment, 7), [None, 0, None, None, None, 1, None])

    def test_a_slot_may_be_too_short(self):
        moment = start(costs=(1, 2, 0), plan=("slots", [(0, 2), (1, 3)]))
        self.assertEqual(turns(moment, 10), [None, None, 1, None, None] * 2)
        self.assertEqual(led(moment, None)[1].running(), (0, 0, 0, 1))
        self.assertEqual(led(moment, None, None, PASS)[1].running(), (1, 0, 1, 3))

    def test_the_task_of_the_slot_runs_also_if_it_is_not_ready(self):
        moment = start(rights=[[("take", 0)], []], plan=("slots", [(0, 1), (1, 1)]))
        moment = led(moment, ("wait", 0), PASS)[1]
        self.assertEqual(moment.running(), (1, 0, 1, 0))
        moment = led(moment, None)[1]
        self.assertEqual(moment.running(), (0, 0, 0, 1))
        self.assertEqual(moment.due(), 1)

    def test_another_ready_task_has_no_turn_in_the_slot(self):
        moment = start(plan=("slots", [(0, 3), (1, 1)]))
        self.assertEqual(led(moment, ("sleep", 2), None, PASS)[0], [(0, None), None, (0, "yes")])

    def test_nothing_is_spent(self):
        moment = led(start(plan=("slots", [(0, 3), (1, 1)]), costs=(2, 0, 0)), PASS)[1]
        self.assertEqual(moment.running(), (0, 0, 2, 1))

    def test_two_rows_of_one_task(self):
        """No change, but the switch ticks of each row."""
        changes = dict(costs=(1, 0, 1), rights=[[("read", 0)], []], lines=[0, None], wipe=True)
        moment = start(**changes, plan=("slots", [(0, 2), (0, 2), (1, 2)]))
        self.assertEqual(turns(moment, 6), [None, 0, None, 0, None, 1])
        moment = led(moment, None, ("read", 0), None)[1]
        self.assertEqual(moment.lines(), [0, None])
        self.assertEqual(led(moment, PASS, None)[1].lines(), [None, None])

    def test_what_runs_is_told_where_a_slot_begins_alone(self):
        """A moment in the midst of a slot at which nobody runs, or another task."""
        moment = led(start(plan=("slots", [(0, 3), (1, 2)])), PASS)[1]
        for runs in (None, 1):
            other = Moment(moment.build(), (*moment.shape()[:9], (runs, 0, 1, 1)))
            seen, after = led(other, PASS)
            self.assertEqual((seen, after.running()), ([(0, "yes")], (runs, 0, 1, 2)))
            self.assertEqual(led(after, PASS, PASS)[1].running(), (1, 0, 1, 4))

    def test_the_last_and_the_first_row_of_one_task(self):
        changes = dict(rights=[[("read", 0)], []], lines=[0, None], wipe=True)
        moment = led(start(**changes, plan=("slots", [(0, 1), (1, 1), (0, 1)])), PASS, PASS, ("read", 0), PASS)[1]
        self.assertEqual(moment.lines(), [0, None])


class TestWipe(unittest.TestCase):
    def lines_behind(self, *calls, **changes):
        rights = [[("read", 0), ("read", 1)]] * len(changes.get("tasks", [0, 0]))
        return led(start(rights=rights, lines=[0, 1], **changes), *calls)[1].lines()

    def test_a_change_to_another_side(self):
        for wipe, lines in ((True, [None, None]), (False, [0, None])):
            self.assertEqual(self.lines_behind(("read", 0), PASS, wipe=wipe), lines)

    def test_both_lines_are_emptied_ahead_of_the_turn(self):
        calls = [("read", 0), ("read", 1), ("read", 0)]
        self.assertEqual(self.lines_behind(*calls, wipe=True, plan=("levels", 2)), [0, None])
        self.assertEqual(self.lines_behind(*calls[:2], wipe=True, plan=("levels", 2)), [0, 1])

    def test_no_change(self):
        self.assertEqual(self.lines_behind(("read", 0), PASS, wipe=True, plan=("levels", 2)), [0, None])
        self.assertEqual(self.lines_behind(("read", 0), PASS, PASS, wipe=True, tasks=[(0, 1), (1, 0)]), [0, None])

    def test_a_change_to_a_task_of_the_same_side(self):
        tasks = [(0, 0), (0, 0), (1, 0)]
        self.assertEqual(self.lines_behind(("read", 0), PASS, wipe=True, tasks=tasks), [0, None])
        self.assertEqual(self.lines_behind(("read", 0), PASS, PASS, wipe=True, tasks=tasks), [None, None])

    def test_nobody_ran_before(self):
        """Task 1 waits for ever; task 0 reads, waits too, and runs again, behind nobody."""
        changes = dict(tasks=[(0, 0), (1, 1)], ports=[1, 1], rights=[[("read", 0), ("take", 1)], [("take", 0)]],
                       lines=[0, None], outside=(1, 1))
        for wipe, lines in ((True, [None, None]), (False, [0, None])):
            moment = start(**changes, wipe=wipe)
            moment = led(moment, ("wait", 0), ("read", 0), ("wait", 1), None)[1]
            self.assertEqual((moment.running()[0], moment.lines()), (None, [0, None]))
            self.assertEqual(led(moment, [0, PASS])[1].lines(), lines)

    def test_where_a_switch_begins(self):
        moment = start(rights=[[("read", 0)], []], lines=[0, None], wipe=True, costs=(1, 0, 2))
        moment = led(moment, None, None, ("read", 0))[1]
        self.assertEqual(moment.lines(), [0, None])
        self.assertEqual(led(moment, None)[1].lines(), [None, None])

    def test_where_a_slot_begins(self):
        plan = ("slots", [(0, 1), (1, 1)])
        self.assertEqual(self.lines_behind(("read", 0), PASS, wipe=True, plan=plan), [None, None])
        self.assertEqual(self.lines_behind(("read", 0), PASS, wipe=False, plan=plan), [0, None])
        plan = ("slots", [(0, 3), (1, 2)])
        calls = [("read", 0), None, None]
        self.assertEqual(self.lines_behind(*calls, wipe=True, plan=plan, costs=(2, 1, 0)), [0, None])
        self.assertEqual(self.lines_behind(*calls, None, wipe=True, plan=plan, costs=(2, 1, 0)), [None, None])


class TestLetters(unittest.TestCase):
    def test_behind_the_letters_of_the_port_or_lost(self):
        moment = start(ports=[1, 2], outside=(1, 1))
        moment = led(moment, [0, PASS])[1]
        self.assertEqual(moment.ports(), [[], [0]])
        moment = led(moment, [1, PASS])[1]
        self.assertEqual(moment.ports(), [[], [0, 1]])
        moment = led(moment, [1, PASS])[1]
        self.assertEqual(moment.ports(), [[], [0, 1]])

    def test_to_the_least_of_those_that_wait(self):
        rights = [[], [("take", 0)], [("take", 0)], [("take", 1)]]
        moment = start(tasks=[(0, 0), (1, 1), (1, 2), (1, 2)], ports=[1, 1], rights=rights, outside=(0, 1))
        moment = led(moment, ("wait", 0), ("wait", 1), ("wait", 0))[1]
        after = led(moment, [1, PASS])[1]
        self.assertEqual([after.status(task)[0] for task in range(4)], ["ready", "ready", "waits", "waits"])
        self.assertEqual(after.ports(), [[], []])
        seen, after = led(moment, [1, ("sleep", 2)], [0, PASS])
        self.assertEqual(seen, [(1, "1"), (2, "0")])

    def test_letters_may_come_at_multiples_of_every(self):
        moment = start(ports=[2], outside=(0, 3), plan=("slots", [(0, 1), (1, 1)]))
        found = []
        for _ in range(12):
            try:
                moment.due(1)
                found.append(moment.running()[3])
            except ValueError:
                pass
            moment = moment.tick(None, PASS)[1]
        self.assertEqual(found, [0, 3, 0, 3])


if __name__ == "__main__":
    unittest.main()
