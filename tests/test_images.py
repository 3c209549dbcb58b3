"""[3], [4], [5], [11], [35]: moments as texts, and which moments are sound."""

import copy
import itertools
import random
import re
import unittest
from math import gcd

from hushkernel.builds import Build
from hushkernel.errors import NoImage, NoText
from hushkernel.images import moment_text, read_moment
from hushkernel.moments import first, played
from hushkernel.programs import ran

from tests.helper import (all_calls, all_rights, has_own_lists, later, led, letters_of, odd_values, some, some_letters,
                          some_parts, some_programs, spoil, start)

PASS = ("pass",)
ANSWERS = (None, "yes", "no", "empty", "0", "1")
NAMES = ("statuses", "answers", "rights", "frames", "pages", "ports", "locks", "lines", "head", "running")


def spelled(*items):
    return " ".join("none" if item is None else str(item) for item in items)


def plain_text(shape):
    """The image of a moment of this shape, as [35] tells it."""
    statuses, answers, rights, frames, pages, ports, locks, lines, head, running = shape
    rows = [spelled("task", *status, answer, many) for status, answer, many in zip(statuses, answers, frames)]
    rows += [spelled("right", task, *right) for task, row in enumerate(rights) for right in row]
    rows += [spelled("page", page) for page in pages]
    rows += [spelled("port", *letters) for letters in ports]
    rows += [spelled("lock", holder, *waiters) for holder, waiters in locks]
    return "\n".join([*rows, spelled("lines", *lines), spelled("head", head), spelled("running", *running)])


def slot_at(parts, phase):
    """How many ticks of the slot have gone by ahead of the next tick, and how many are left, that one included."""
    gone = phase % sum(ticks for _, ticks in parts["plan"][1])
    for _, ticks in parts["plan"][1]:
        if gone < ticks:
            return gone, ticks - gone
        gone -= ticks


def is_int(thing, low, high):
    return type(thing) is int and low <= thing <= high


def is_sound(parts, shape):
    """As [35] tells it."""
    statuses, answers, rights, frames, pages, ports, locks, lines, head, running = shape
    count = len(parts["tasks"])
    if [len(part) for part in shape[:7]] != [count] * 4 + [len(parts["pages"]), len(parts["ports"]), parts["locks"]]:
        return False
    fitting = [("ready",), ("asleep", 1), ("asleep", 2)]
    fitting += [("waits", port) for port in range(len(parts["ports"]))] + [("locked", lock) for lock in range(parts["locks"])]
    every = all_rights(parts)
    tests = [
        all(status in fitting for status in statuses),
        all(answer in ANSWERS for answer in answers),
        all(status == ("ready",) or answer is None for status, answer in zip(statuses, answers)),
        all(list(row) == sorted(set(row)) and all(right in every for right in row) for row in rights),
        all(many >= 0 for many in frames) and sum(frames) <= parts["frames"],
        all(is_int(page, 0, 1) for page in pages),
        all(len(letters) <= size and set(letters) <= {0, 1} for letters, size in zip(ports, parts["ports"])),
        all(letters == () or ("waits", port) not in statuses for port, letters in enumerate(ports)),
        len(lines) == 2 and all(page is None or (0 <= page < len(parts["pages"]) and parts["lines"][page] == line)
                                for line, page in enumerate(lines)),
        is_int(head, 0, max(parts["disk"] - 1, 0)),
        is_sound_run(parts, running),
    ]
    for lock, (holder, waiters) in enumerate(locks):
        tests.append(sorted(waiters) == [task for task in range(count) if statuses[task] == ("locked", lock)])
        tests.append(holder is None or is_int(holder, 0, count - 1))
        tests.append(holder not in waiters and (waiters == () or holder is not None))
    return all(tests)


def is_sound_run(parts, running):
    if len(running) != 4:
        return False
    task, spent, busy, phase = running
    slots, period = parts["plan"][0] == "slots", 1 if parts["outside"] is None else parts["outside"][1]
    if slots:
        total = sum(ticks for _, ticks in parts["plan"][1])
        period = period * total // gcd(period, total)
    if not (task is None or is_int(task, 0, len(parts["tasks"]) - 1)):
        return False
    if not (is_int(spent, 0, 13) and is_int(busy, 0, 8) and is_int(phase, 0, period - 1)):
        return False
    if spent > 0 and (task is None or slots):
        return False
    if slots:
        gone, left = slot_at(parts, phase)
        return busy <= (1 if gone == 0 else left + 1)
    return True


def word_of(text):
    """What a word of a line stands for."""
    if text == "none":
        return None
    return int(text) if re.fullmatch(r"\d{1,4}", text) else text


def plain_read(parts, text):
    """The shape of the sound moment whose image it is, or None."""
    rows = [[word_of(word) for word in line.split(" ")] for line in text.split("\n")]
    sizes = {"task": None, "right": 4, "page": 2, "port": None, "lock": None, "lines": 3, "head": 2, "running": 5}
    found = {word: [] for word in sizes}
    for row in rows:
        if row[0] not in sizes or (sizes[row[0]] not in (None, len(row))) or (row[0] in ("task", "lock") and len(row) < 2):
            return None
        found[row[0]].append(row[1:])
    if not all(len(row) > 2 for row in found["task"]) or [len(found[word]) for word in ("lines", "head", "running")] != [1, 1, 1]:
        return None
    rights = [[] for _ in found["task"]]
    for task, *right in found["right"]:
        if not (is_int(task, 0, len(rights) - 1) and isinstance(right[0], str) and isinstance(right[1], int)):
            return None
        rights[task].append(tuple(right))
    shape = (
        tuple(tuple(row[:-2]) for row in found["task"]), tuple(row[-2] for row in found["task"]),
        tuple(tuple(row) for row in rights), tuple(row[-1] for row in found["task"]), tuple(row[0] for row in found["page"]),
        tuple(tuple(row) for row in found["port"]), tuple((row[0], tuple(row[1:])) for row in found["lock"]),
        tuple(found["lines"][0]), found["head"][0][0], tuple(found["running"][0]),
    )
    # The answers "0" and "1" are read as numbers.
    answers = tuple(str(answer) if isinstance(answer, int) else answer for answer in shape[1])
    shape = (shape[0], answers, *shape[2:])
    flat = [item for part in (shape[3], shape[4], *shape[5], *shape[6], shape[7], shape[8:9], shape[9]) for item in part]
    flat = [item for entry in flat for item in (entry if isinstance(entry, tuple) else (entry,))]
    if not all(item is None or isinstance(item, int) for item in flat) or any(item is None for item in shape[3]):
        return None
    if any(item is None for item in (*shape[9][1:], shape[8])):
        return None
    if not is_sound(parts, shape) or plain_text(shape) != text:
        return None
    return shape


FULL = some(
    tasks=[(0, 0), (1, 1), (2, 2)], pages=[0, 1, 1], ports=[2, 1], locks=2, frames=3, disk=3, lines=[0, 1, None],
    costs=(2, 1, 1), plan=("levels", 4), outside=(0, 3),
    rights=[[("hand", 1), ("read", 0), ("seek", 0)], [("lock", 0), ("take", 1)], [("lock", 0), ("lock", 1)]],
)
SLOTS = {**FULL, "plan": ("slots", [(0, 5), (1, 1), (0, 6)]), "outside": (0, 4)}


def shape_of(parts):
    return dict(zip(NAMES, first(Build(**parts)).shape()))


class TestMomentText(unittest.TestCase):
    def test_by_hand(self):
        self.assertEqual(moment_text(first(Build(**FULL))), "\n".join([
            "task ready none 0", "task ready none 0", "task ready none 0", "right 0 hand 1", "right 0 read 0", "right 0 seek 0",
            "right 1 lock 0", "right 1 take 1", "right 2 lock 0", "right 2 lock 1", "page 0", "page 1", "page 1", "port", "port",
            "lock none", "lock none", "lines none none", "head 0", "running none 0 0 0",
        ]))

    def test_by_hand_behind_some_ticks(self):
        moment = start(tasks=[(0, 0), (1, 0), (0, 0), (1, 0)], pages=[1, 0], ports=[2, 1], locks=2, frames=2, disk=2, lines=[1, None],
                       rights=[[("lock", 0), ("read", 0)], [("lock", 0), ("send", 0)], [("lock", 0), ("seek", 0)], [("take", 1)]],
                       costs=(1, 2, 0), plan=("levels", 1), outside=(0, 4))
        acts = [[1, ("lock", 0)], ("lock", 0), ("get",), ("wait", 1), [0, ("read", 0)], None, None, ("seek", 1)]
        for act in acts:
            letter, call = act if isinstance(act, list) else (None, act)
            moment = moment.tick(letter, call)[1]
        self.assertEqual(moment_text(moment), "\n".join([
            "task ready 1 0", "task locked 0 none 0", "task ready yes 1", "task waits 1 none 0",
            "right 0 lock 0", "right 0 read 0", "right 1 lock 0", "right 1 send 0", "right 2 lock 0", "right 2 seek 0", "right 3 take 1",
            "page 1", "page 0", "port 1 0", "port", "lock 0 1", "lock none", "lines none 0", "head 1", "running 2 2 2 0",
        ]))

    def test_sleep(self):
        moment = led(start(), ("sleep", 2))[1]
        self.assertEqual(moment_text(moment).split("\n")[:2], ["task asleep 2 none 0", "task ready none 0"])

    def test_along_many_runs(self):
        """Each image is that of an equal moment, from which all goes on as from the moment."""
        rng = random.Random(101)
        for _ in range(120):
            parts = some_parts(rng)
            build = Build(**parts)
            moment, calls = first(build), all_calls(parts)
            for _ in range(25):
                text = moment_text(moment)
                self.assertEqual(text, plain_text(moment.shape()))
                self.assertTrue(is_sound(parts, moment.shape()))
                other = read_moment(build, text)
                self.assertTrue(other == moment)
                self.assertEqual(repr(other.shape()), repr(moment.shape()))
                letter = rng.choice(letters_of(moment))
                call = None if moment.due(letter) is None else rng.choice(moment.calls(letter) + [rng.choice(calls)])
                seen, moment = moment.tick(letter, call)
                self.assertEqual(other.due(letter), None if seen is None else seen[0])
                self.assertTrue(other.tick(letter, call)[1] == moment)

    def test_veiled_moments(self):
        rng = random.Random(102)
        for _ in range(80):
            parts = some_parts(rng)
            build = Build(**parts)
            tasks = [task for task in range(len(parts["tasks"])) if rng.random() < 0.5]
            moment = later(rng, first(build), rng.randint(1, 20)).veiled(tasks)
            self.assertTrue(read_moment(build, moment_text(moment)) == moment)
            self.assertTrue(read_moment(build, moment_text(moment)).veiled(tasks) == moment)


class TestSound(unittest.TestCase):
    """Each line of what is sound, at its bounds and just beyond."""

    def check(self, parts, **changes):
        """Whether the first moment with other parts is sound: the program and the plain judge have to agree."""
        shape = tuple({**shape_of(parts), **changes}[name] for name in NAMES)
        sound = is_sound(parts, shape)
        text = plain_text(shape)
        if sound:
            moment = read_moment(Build(**parts), text)
            self.assertEqual(repr(moment.shape()), repr(shape))
            self.assertEqual(moment_text(moment), text)
            self.assertTrue(moment.build() == Build(**parts))
        else:
            with self.assertRaises(NoImage):
                read_moment(Build(**parts), text)
        return sound

    def task(self, status, answer=None, held=0, **changes):
        """The first moment with another task 1; the locks are held, and have those who wait."""
        locks = [(0, (1,)) if status == ("locked", lock) else (None, ()) for lock in range(2)]
        return self.check(FULL, statuses=(("ready",), status, ("ready",)), answers=(None, answer, None),
                          frames=(0, held, 0), **{"locks": tuple(locks), **changes})

    def test_statuses(self):
        good = [("ready",), ("asleep", 1), ("asleep", 2), ("waits", 0), ("waits", 1), ("locked", 0), ("locked", 1)]
        wrong = [("asleep", 0), ("asleep", 3), ("waits", 2), ("locked", 2), ("asleep",), ("ready", 0), ("waits",), ("asleep", None),
                 ("busy",), ("Ready",), ("none",), ("runs", 1), ("asleep", 1, 1)]
        for status in good:
            self.assertTrue(self.task(status))
        for status in wrong:
            self.assertFalse(self.task(status))

    def test_answers(self):
        for answer in ("yes", "no", "empty", "0", "1", None):
            self.assertTrue(self.task(("ready",), answer))
            for status in (("asleep", 1), ("waits", 1), ("locked", 0)):
                self.assertEqual(self.task(status, answer), answer is None)
        for answer in ("2", "Yes", "maybe", "ready", "-1", "00"):
            self.assertFalse(self.task(("ready",), answer))

    def test_rights(self):
        every = all_rights(FULL)
        self.assertGreater(len(every), 8)
        self.assertTrue(self.check(FULL, rights=((), (), ())))
        self.assertTrue(self.check(FULL, rights=(tuple(every), tuple(every), tuple(every))))
        self.assertTrue(self.check(FULL, rights=(tuple(every[:9]), (), tuple(every[3:]))))
        for wrong in [every[:1] * 2, every[:2][::-1], [*every[1:], every[0]], [("read", 3)], [("seek", 1)], [("lock", 2)], [("take", 2)],
                      [("hand", 3)], [("wait", 0)], [("pass", 0)], [("free", 0)]]:
            for task in range(3):
                self.assertFalse(self.check(FULL, rights=tuple(tuple(wrong) if at == task else () for at in range(3))))
        bare = some(tasks=[(0, 0), (1, 0)], pages=[], ports=[], locks=0)
        for right in [("read", 0), ("send", 0), ("lock", 0), ("seek", 0), ("hand", 2)]:
            self.assertFalse(self.check(bare, rights=((right,), ())))
        self.assertTrue(self.check(bare, rights=((("hand", 1), ("strip", 0)), ())))

    def test_frames(self):
        for frames in itertools.product(range(-1, 5), repeat=3):
            self.assertEqual(self.check(FULL, frames=frames), min(frames) >= 0 and sum(frames) <= 3)
        none = {**FULL, "frames": 0}
        self.assertTrue(self.check(none, frames=(0, 0, 0)))
        self.assertFalse(self.check(none, frames=(0, 0, 1)))
        # Frames may be shared, and still one side may hold more than its part.
        self.assertTrue(self.check({**FULL, "share": True}, frames=(3, 0, 0)))

    def test_pages(self):
        for pages in itertools.product((0, 1), repeat=3):
            self.assertTrue(self.check(FULL, pages=pages))
        for page in (2, -1, None, "00", "yes"):
            for at in range(3):
                self.assertFalse(self.check(FULL, pages=tuple(page if spot == at else 0 for spot in range(3))))
        for many in (0, 2, 4):
            self.assertFalse(self.check(FULL, pages=(0,) * many))

    def test_ports(self):
        for many in range(4):
            for letters in itertools.product((0, 1), repeat=many):
                self.assertEqual(self.check(FULL, ports=(letters, ())), many <= 2)
                self.assertEqual(self.check(FULL, ports=((), letters)), many <= 1)
        for letter in (2, -1, None, "yes", "00"):
            self.assertFalse(self.check(FULL, ports=((letter,), ())))
            self.assertFalse(self.check(FULL, ports=((0, letter), ())))
        for ports in [(), ((),), ((), (), ())]:
            self.assertFalse(self.check(FULL, ports=ports))

    def test_no_letters_where_a_task_waits(self):
        for port in (0, 1):
            for ports in [((), ()), ((0,), ()), ((), (1,)), ((1, 0), (1,))]:
                self.assertEqual(self.task(("waits", port), ports=ports), ports[port] == ())

    def test_several_tasks_wait_at_a_port(self):
        for statuses in itertools.product([("ready",), ("waits", 0), ("waits", 1)], repeat=3):
            self.assertTrue(self.check(FULL, statuses=statuses))

    def test_locks(self):
        """Holders and those who wait: all small cases against the plain judge."""
        met = {True: 0, False: 0}
        ready, locked = ("ready",), ("locked", 0)
        orders = [order for many in range(4) for order in itertools.permutations(range(3), many)]
        for statuses in itertools.product((ready, locked), repeat=3):
            for holder in (None, 0, 1, 2, 3, -1):
                for waiters in [*orders, (1, 1), (0, 1, 0), (3,), (None,)]:
                    met[self.check(FULL, statuses=statuses, locks=((holder, waiters), (None, ())))] += 1
        self.assertGreater(min(met.values()), 10)

    def test_locks_by_hand(self):
        ready, locked, other = ("ready",), ("locked", 0), ("locked", 1)
        cases = [
            ((ready, ready, ready), ((0, ()), (0, ())), True),
            ((ready, locked, locked), ((0, (2, 1)), (None, ())), True),
            ((ready, locked, locked), ((0, (1, 2)), (None, ())), True),
            ((ready, locked, locked), ((0, (1,)), (None, ())), False),
            ((ready, locked, ready), ((0, (1, 2)), (None, ())), False),
            ((ready, locked, ready), ((0, (1, 1)), (None, ())), False),
            ((ready, locked, ready), ((None, (1,)), (None, ())), False),
            ((ready, locked, ready), ((None, ()), (None, ())), False),
            ((ready, locked, ready), ((1, (1,)), (None, ())), False),
            ((ready, locked, ready), ((None, ()), (0, (1,))), False),
            ((ready, locked, other), ((2, (1,)), (1, (2,))), True),
            ((locked, locked, locked), ((None, (0, 1, 2)), (None, ())), False),
            ((ready, ready, ready), ((3, ()), (None, ())), False),
            ((ready, ready, ready), ((None, ()),), False),
            ((ready, ready, ready), ((None, ()), (None, ()), (None, ())), False),
        ]
        for statuses, locks, sound in cases:
            self.assertEqual(self.check(FULL, statuses=statuses, locks=locks), sound)

    def test_lines(self):
        """Page 0 has line 0, page 1 line 1, and page 2 none."""
        for lines in itertools.product((None, 0, 1, 2, 3), repeat=2):
            self.assertEqual(self.check(FULL, lines=lines), lines[0] in (None, 0) and lines[1] in (None, 1))
        same = {**FULL, "lines": [1, 1, 1]}
        for lines in itertools.product((None, 0, 1, 2, 3, -1), repeat=2):
            self.assertEqual(self.check(same, lines=lines), lines[0] is None and lines[1] in (None, 0, 1, 2))
        for lines in [(None,), (None, None, None), ()]:
            self.assertFalse(self.check(FULL, lines=lines))

    def test_the_head(self):
        for disk in (0, 2, 3, 4):
            parts = {**FULL, "disk": disk, "rights": [[], [], []]}
            for head in range(-1, 6):
                self.assertEqual(self.check(parts, head=head), 0 <= head < max(disk, 1))
            self.assertFalse(self.check(parts, head=None))

    def test_running_with_levels(self):
        for task in (None, 0, 1, 2, 3, -1):
            for spent in (-1, 0, 1, 12, 13, 14):
                for busy in (-1, 0, 1, 7, 8, 9):
                    for phase in (-1, 0, 2, 3):
                        fits = (task in (None, 0, 1, 2) and 0 <= spent <= 13 and (spent == 0 or task is not None)
                                and 0 <= busy <= 8 and 0 <= phase <= 2)
                        self.assertEqual(self.check(FULL, running=(task, spent, busy, phase)), fits)
        self.assertFalse(self.check(FULL, running=(0, None, 0, 0)))
        self.assertFalse(self.check(FULL, running=(0, 0, None, 0)))
        self.assertFalse(self.check(FULL, running=(0, 0, 0, None)))
        self.assertFalse(self.check(FULL, running=(0, 0, 0)))
        self.assertFalse(self.check(FULL, running=(0, 0, 0, 0, 0)))

    def test_the_phase_of_a_kernel_without_letters_and_slots(self):
        parts = {**FULL, "outside": None}
        self.assertTrue(self.check(parts, running=(0, 1, 1, 0)))
        self.assertFalse(self.check(parts, running=(0, 1, 1, 1)))

    def test_running_with_slots(self):
        """Slots of 5, 1 and 6 ticks; letters each 4 ticks: the period is 12."""
        bounds = [1, 5, 4, 3, 2, 1, 1, 6, 5, 4, 3, 2]
        for phase in range(-1, 14):
            for busy in range(-1, 10):
                fits = 0 <= phase < 12 and 0 <= busy <= bounds[phase]
                self.assertEqual(self.check(SLOTS, running=(1, 0, busy, phase)), fits)
                self.assertEqual(self.check(SLOTS, running=(None, 0, busy, phase)), fits)
        for spent in (1, 13):
            self.assertFalse(self.check(SLOTS, running=(0, spent, 0, 0)))

    def test_busy_at_most_eight_in_long_slots(self):
        parts = {**FULL, "plan": ("slots", [(0, 12), (1, 12)]), "outside": None}
        bounds = [1, 8, 8, 8, 8, 8, 7, 6, 5, 4, 3, 2] * 2
        for phase in range(25):
            for busy in range(14):
                fits = phase < 24 and busy <= bounds[phase]
                self.assertEqual(self.check(parts, running=(0, 0, busy, phase)), fits)

    def test_the_period_of_slots_and_letters(self):
        parts = {**FULL, "plan": ("slots", [(0, 3), (1, 2)]), "outside": (0, 4)}
        for phase, fits in ((19, True), (20, False), (5, True), (12, True)):
            self.assertEqual(self.check(parts, running=(0, 0, 0, phase)), fits)

    def test_drawn_shapes(self):
        """Moments of runs with some parts of others: sound or not, as the plain judge tells."""
        rng = random.Random(103)
        met = {True: 0, False: 0}
        for _ in range(500):
            parts = some_parts(rng)
            moments = [later(rng, first(Build(**parts)), rng.randint(0, 15)).shape() for _ in range(3)]
            shape = {name: rng.choice(moments)[at] for at, name in enumerate(NAMES)}
            if rng.random() < 0.3:
                task, spent, busy, phase = shape["running"]
                shape["running"] = (task, spent, busy + rng.randint(-1, 3), phase + rng.randint(-1, 1))
            if rng.random() < 0.1:
                shape["frames"] = tuple(many + rng.randint(0, 1) for many in shape["frames"])
            met[self.check(parts, **shape)] += 1
        self.assertGreater(min(met.values()), 60, met)

    def test_going_on_from_a_sound_moment(self):
        """Sound moments that no run comes to: all that is behind them is sound, too, and going on raises nothing."""
        rng = random.Random(104)
        met = 0
        while met < 150:
            parts = some_parts(rng)
            text = plain_text(drawn_sound(rng, parts))
            moment = read_moment(Build(**parts), text)
            met += 1
            self.assertEqual(moment_text(moment), text)
            for _ in range(25):
                moment = later(rng, moment, 1)
                self.assertTrue(is_sound(parts, moment.shape()), (parts, text))
                self.assertTrue(read_moment(Build(**parts), moment_text(moment)) == moment)
            seen, _ = ran(moment, some_programs(rng, parts), some_letters(rng, 9), 30)
            self.assertEqual(len(seen), 30)

    def test_rings_of_tasks_that_wait_for_one_another(self):
        parts = {**FULL, "lend": True}
        text = plain_text(tuple({**shape_of(parts), "statuses": (("ready",), ("locked", 1), ("locked", 0)),
                                 "locks": ((1, (2,)), (2, (1,)))}[name] for name in NAMES))
        moment = read_moment(Build(**parts), text)
        self.assertEqual(moment.tick()[1].due(), 0)


def drawn_sound(rng, parts):
    """The shape of some sound moment, by a random source."""
    count = len(parts["tasks"])
    locks = [[None, ()] for _ in range(parts["locks"])]
    statuses, ports = [], []
    for task in range(count):
        kinds = [("ready",), ("ready",), ("asleep", rng.randint(1, 2))]
        kinds += [("waits", port) for port in range(len(parts["ports"]))]
        kinds += [("locked", lock) for lock in range(parts["locks"]) if task > 0]
        statuses.append(rng.choice(kinds))
    for lock in range(parts["locks"]):
        waiters = [task for task in range(count) if statuses[task] == ("locked", lock)]
        rng.shuffle(waiters)
        holders = [task for task in range(count) if task not in waiters] + ([None] if not waiters else [])
        locks[lock] = (rng.choice(holders), tuple(waiters))
    for port, size in enumerate(parts["ports"]):
        many = 0 if ("waits", port) in statuses else rng.randint(0, size)
        ports.append(tuple(rng.choice((0, 1)) for _ in range(many)))
    frames, left = [], parts["frames"]
    for _ in range(count):
        frames.append(rng.randint(0, left))
        left -= frames[-1]
    every = all_rights(parts)
    lines = tuple(rng.choice([None, *[page for page, own in enumerate(parts["lines"]) if own == line]]) for line in (0, 1))
    while True:
        task = rng.choice([None, *range(count)])
        running = (task, rng.choice([0, 0, 5, 13]), rng.randint(0, 8), rng.randint(0, 30))
        if is_sound_run(parts, running):
            break
    return (
        tuple(statuses), tuple(rng.choice(ANSWERS) if status == ("ready",) else None for status in statuses),
        tuple(tuple(sorted(rng.sample(every, rng.randint(0, len(every))))) for _ in range(count)), tuple(frames),
        tuple(rng.choice((0, 1)) for _ in parts["pages"]), tuple(ports), tuple(locks), lines,
        rng.randrange(max(parts["disk"], 1)), running,
    )


class TestTexts(unittest.TestCase):
    """Texts that are no image."""

    def setUp(self):
        self.build = Build(**FULL)
        statuses = (("ready",), ("locked", 0), ("locked", 0))
        self.shape = tuple({
            **shape_of(FULL), "statuses": statuses, "answers": ("empty", None, None), "frames": (1, 0, 2), "ports": ((1, 0), (1,)),
            "locks": ((0, (2, 1)), (1, ())), "lines": (0, None), "head": 2, "running": (2, 13, 8, 1),
        }[name] for name in NAMES)
        self.text = plain_text(self.shape)

    def check(self, text, parts=FULL):
        """That it is as the plain reader tells; returns whether it is an image."""
        expected = plain_read(parts, text)
        if expected is None:
            with self.assertRaises(NoImage, msg=text):
                read_moment(Build(**parts), text)
        else:
            self.assertEqual(repr(read_moment(Build(**parts), text).shape()), repr(expected))
        return expected is not None

    def test_the_text_itself(self):
        self.assertTrue(self.check(self.text))
        self.assertEqual(repr(read_moment(self.build, self.text).shape()), repr(self.shape))

    def test_no_string(self):
        for thing in odd_values():
            if not isinstance(thing, str):
                with self.subTest(f"{thing!r}"), self.assertRaises(NoText) as caught:
                    read_moment(self.build, thing)
                self.assertEqual(caught.exception.line, -1)
            else:
                with self.assertRaises(NoImage):
                    read_moment(self.build, thing)

    def test_lines_left_out_put_in_twice_and_exchanged(self):
        lines = self.text.split("\n")
        good = 0
        for at in range(len(lines)):
            good += self.check("\n".join(lines[:at] + lines[at + 1:]))
            good += self.check("\n".join(lines[:at + 1] + lines[at:]))
            for other in range(at):
                changed = list(lines)
                changed[at], changed[other] = changed[other], changed[at]
                good += self.check("\n".join(changed)) if changed != lines else 0
            for line in ("", " ", "task ready none 0", "page 0", "port", "lock none", "head 0", "right 0 hand 0", "end"):
                good += self.check("\n".join(lines[:at] + [line] + lines[at:]))
            self.assertFalse(self.check("\n".join(lines[:at])))
            self.assertFalse(self.check("\n".join(lines[:at]) + "\n"))
        # Only rights may be left out or put in, and only pages of other values be exchanged.
        self.assertGreater(good, 5)
        self.assertFalse(self.check(self.text + "\n"))
        self.assertFalse(self.check("\n" + self.text))

    def test_signs_changed_at_any_place(self):
        for at in range(len(self.text) + 1):
            for sign in " 0-1\nn9":
                self.check(self.text[:at] + sign + self.text[at:])
                self.check(self.text[:at] + sign + self.text[at + 1:])
            self.check(self.text[:at] + self.text[at + 1:])

    def test_blanks(self):
        for line in ("port ", "port  1", " port", "lock none ", "lines none none ", "head 0 ", "head  0", "running none 0 0 0 ",
                     "task ready  none 0", "page 0 "):
            word = line.split()[0]
            lines = moment_text(first(self.build)).split("\n")
            at = [other.split(" ")[0] for other in lines].index(word)
            self.assertFalse(self.check("\n".join([*lines[:at], line, *lines[at + 1:]])), line)

    def test_digits_beyond_all_bounds(self):
        lines = self.text.split("\n")
        for digits in ("9" * 4500, "0" * 4500, "1" + "0" * 4400):
            for at, line in enumerate(lines):
                for word in re.findall(r"\d+", line):
                    changed = "\n".join([*lines[:at], line.replace(word, digits, 1), *lines[at + 1:]])
                    with self.assertRaises(NoImage):
                        read_moment(self.build, changed)

    def test_long_texts(self):
        for text in ["\n" * 5000, "x" * 5000, "task ready none 0\n" * 270, self.text + "\nright 0 hand 0" * 250, " " * 5000,
                     "lock 0" + " 1" * 2000]:
            with self.assertRaises(NoImage):
                read_moment(self.build, text)

    def test_images_of_other_builds(self):
        rng = random.Random(105)
        for _ in range(60):
            parts, other = some_parts(rng), some_parts(rng)
            for one in (parts, other):
                text = moment_text(later(rng, first(Build(**one)), 5))
                self.check(text, parts)
                self.check(text, {**one, "frames": 0})

    def test_answers_and_what_else_is_called_so(self):
        lines = self.text.split("\n")
        for answer, fits in [("none", True), ("yes", True), ("0", True), ("1", True), ("None", False), ("2", False), ("", False),
                             ("yes no", False), ("01", False)]:
            self.assertEqual(self.check("\n".join([f"task ready {answer} 0", *lines[1:]])), fits)


class TestValues(unittest.TestCase):
    def test_lists_are_new(self):
        build = Build(**FULL)
        text = moment_text(first(build))
        moment = read_moment(build, text)
        for part in (moment.pages(), moment.ports(), moment.locks(), moment.lines(), moment.rights(0)):
            self.assertTrue(has_own_lists(part))
            spoil(part)
        self.assertEqual(moment_text(moment), text)

    def test_nothing_that_is_handed_in_is_changed(self):
        moment, saved = start(**FULL), copy.deepcopy(start(**FULL).shape())
        moment_text(moment)
        read_moment(moment.build(), moment_text(moment))
        self.assertEqual(moment.shape(), saved)
        self.assertTrue(moment.build() == Build(**FULL))


class TestFact(unittest.TestCase):
    def test_runs_from_an_image(self):
        """Going on from it is going on from the moment, by any acts."""
        rng = random.Random(106)
        for _ in range(80):
            parts = some_parts(rng)
            build, calls = Build(**parts), all_calls(parts)
            moment = later(rng, first(build), rng.randint(0, 30))
            other, at, acts = read_moment(build, moment_text(moment)), moment, []
            for _ in range(40):
                letter = rng.choice(letters_of(at))
                acts.append((letter, None if at.due(letter) is None else rng.choice(at.calls(letter) + calls[:3])))
                at = at.tick(*acts[-1])[1]
            one, two = played(moment, acts), played(other, acts)
            self.assertEqual(one[0], two[0])
            self.assertTrue(one[1] == two[1])


if __name__ == "__main__":
    unittest.main()
