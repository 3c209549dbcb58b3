"""[3], [4], [5], [32], [33]: builds as texts."""

import copy
import random
import re
import unittest

from hushkernel.builds import Build
from hushkernel.errors import NoBuild, NoText
from hushkernel.texts import build_text, read_build

from tests.helper import all_rights, has_own_lists, odd_values, some, some_parts

REST = ["locks 0", "frames 0", "disk 0", "costs 1 0 0", "levels 1"]
# What makes a text of each begin of one: tasks of other sides, a slot, and the lines that are always there.
ENDS = [tasks + REST[at:] for tasks in ([], ["task 0 0"], ["task 1 0"], ["task 0 0", "task 1 0"]) for at in range(6)]
ENDS = ENDS + [["  0 1"]]
LAYOUT = re.compile(
    r"((?:task \d+ \d+\n)*)((?:page \d+(?: line \d+)?\n)*)((?:port \d+\n)*)locks (\d+)\nframes (\d+)\ndisk (\d+)\n"
    r"costs (\d+) (\d+) (\d+)\n(?:levels (\d+)\n|slots\n((?:  \d+ \d+\n)*))(?:outside (\d+) (\d+)\n)?"
    r"(wipe\n)?(pad\n)?(lend\n)?(share\n)?((?:right \d+ [a-z]+ \d+\n)*)"
)


def plain_text(parts):
    """The text of a build, as [32] tells it."""
    lines = ["task %d %d" % task for task in parts["tasks"]]
    for page, line in zip(parts["pages"], parts["lines"]):
        lines.append("page %d" % page if line is None else "page %d line %d" % (page, line))
    lines += ["port %d" % size for size in parts["ports"]]
    lines += ["%s %d" % (name, parts[name]) for name in ("locks", "frames", "disk")]
    lines.append("costs %d %d %d" % parts["costs"])
    if parts["plan"][0] == "levels":
        lines.append("levels %d" % parts["plan"][1])
    else:
        lines += ["slots"] + ["  %d %d" % row for row in parts["plan"][1]]
    if parts["outside"] is not None:
        lines.append("outside %d %d" % parts["outside"])
    lines += [name for name in ("wipe", "pad", "lend", "share") if parts.get(name)]
    for task, row in enumerate(parts["rights"]):
        lines += ["right %d %s %d" % (task, word, at) for word, at in row]
    return "\n".join(lines)


def numbers(text):
    return [int(word) for word in re.findall(r"\d+", text)]


def plain_read(text):
    """The parts of the build whose text it is, or None: laid out as one, and the very text of what it tells."""
    found = LAYOUT.fullmatch(text + "\n")
    if found is None or re.search(r"\d{4}", text):
        return None
    tasks, pages, ports, locks, frames, disk, *costs, levels, slots, port, every, wipe, pad, lend, share, rights = found.groups()
    flat = numbers(tasks)
    parts = {
        "tasks": list(zip(flat[::2], flat[1::2])),
        "pages": [numbers(line)[0] for line in pages.split("\n")[:-1]],
        "ports": numbers(ports), "locks": int(locks), "frames": int(frames), "disk": int(disk),
        "lines": [(numbers(line) + [None])[1] for line in pages.split("\n")[:-1]],
        "costs": tuple(map(int, costs)),
        "plan": ("levels", int(levels)) if levels else ("slots", list(zip(numbers(slots)[::2], numbers(slots)[1::2]))),
        "outside": None if port is None else (int(port), int(every)),
        "wipe": wipe is not None, "pad": pad is not None, "lend": lend is not None, "share": share is not None,
    }
    parts["rights"] = [[] for _ in parts["tasks"]]
    for line in rights.split("\n")[:-1]:
        _, task, word, at = line.split(" ")
        if int(task) >= len(parts["tasks"]):
            return None
        parts["rights"][int(task)].append((word, int(at)))
    try:
        Build(**parts)
    except NoBuild:
        return None
    return parts if plain_text(parts) == text else None


def plain_line(text):
    """The line of NoText, as [33] tells it, or None: each begin of the text is tried with all that may end it."""
    lines = text.split("\n")
    for at in range(len(lines)):
        if all(plain_read("\n".join(lines[:at + 1] + end)) is None for end in ENDS):
            return at
    return None if plain_read(text) is not None else len(lines)


FULL = dict(
    tasks=[(0, 0), (1, 1), (3, 2), (0, 2)], pages=[0, 1, 0], ports=[1, 2], locks=2, frames=3, disk=4, lines=[0, None, 1],
    costs=(3, 2, 1), plan=("slots", [(0, 12), (3, 1), (1, 10)]), outside=(1, 3), wipe=True, pad=True, lend=True, share=True,
    rights=[[("hand", 0), ("lock", 1), ("read", 0), ("seek", 0), ("send", 1), ("strip", 3), ("take", 0), ("write", 2)], [],
            [("seek", 0)], [("read", 0), ("read", 1)]],
)
FULL_TEXT = """task 0 0
task 1 1
task 3 2
task 0 2
page 0 line 0
page 1
page 0 line 1
port 1
port 2
locks 2
frames 3
disk 4
costs 3 2 1
slots
  0 12
  3 1
  1 10
outside 1 3
wipe
pad
lend
share
right 0 hand 0
right 0 lock 1
right 0 read 0
right 0 seek 0
right 0 send 1
right 0 strip 3
right 0 take 0
right 0 write 2
right 2 seek 0
right 3 read 0
right 3 read 1"""
LEAST = ["task 0 0", "task 1 0", *REST]


def read(*lines):
    return read_build("\n".join(lines))


class TestBuildText(unittest.TestCase):
    def test_the_full_build(self):
        self.assertEqual(build_text(Build(**FULL)), FULL_TEXT)

    def test_the_least_build(self):
        build = Build([(0, 0), (1, 0)], [], [], 0, 0, 0, [[], []], [], (1, 0, 0), ("levels", 1), None)
        self.assertEqual(build_text(build), "\n".join(LEAST))

    def test_flags_one_by_one(self):
        for name in ("wipe", "pad", "lend", "share"):
            text = build_text(Build(**some(**{name: True})))
            self.assertEqual([line for line in text.split("\n") if line in ("wipe", "pad", "lend", "share")], [name])

    def test_many_builds(self):
        rng = random.Random(81)
        for _ in range(300):
            parts = some_parts(rng)
            text = build_text(Build(**parts))
            self.assertEqual(text, plain_text(parts))
            self.assertFalse(text.endswith("\n"))
            self.assertTrue(read_build(text) == Build(**parts))
            self.assertEqual(plain_read(text), {**parts, "rights": [list(row) for row in parts["rights"]]})

    def test_each_right(self):
        parts = some(**{**FULL, "rights": None})
        for right in all_rights(parts):
            for task in range(4):
                parts["rights"] = [[right] if at == task else [] for at in range(4)]
                text = build_text(Build(**parts))
                self.assertEqual(text.split("\n")[-1], "right %d %s %d" % (task, *right))
                self.assertTrue(read_build(text) == Build(**parts))


class TestReadBuild(unittest.TestCase):
    def fault(self, *lines):
        with self.assertRaises(NoText) as caught:
            read(*lines)
        return caught.exception.line

    def check(self, text):
        """That it is as the plain reader tells; returns the line of NoText, or None."""
        line = plain_line(text)
        if line is None:
            self.assertTrue(read_build(text) == Build(**plain_read(text)))
        else:
            with self.assertRaises(NoText) as caught:
                read_build(text)
            self.assertEqual(caught.exception.line, line, text)
        return line

    def test_the_full_build(self):
        self.assertTrue(read_build(FULL_TEXT) == Build(**FULL))
        self.assertTrue(read(*LEAST) == read("task 0 0", "task 1 0", *REST))

    def test_the_examples(self):
        self.assertEqual(self.fault("task 1 2", "task 1 0", "task 1 1", "task 1 0"), 3)
        self.assertEqual(self.fault("task 1 2", "task 1 0", "task 1 1", "task 1 2", *REST), 3)
        self.assertEqual(self.fault("task 1 2", "task 1 0", "page 0"), 2)
        self.assertEqual(self.fault("task 0 0"), 1)
        self.assertEqual(self.fault(""), 0)

    def test_no_string(self):
        for thing in odd_values():
            if not isinstance(thing, str):
                with self.subTest(f"{thing!r}"), self.assertRaises(NoText) as caught:
                    read_build(thing)
                self.assertEqual(caught.exception.line, -1)

    def test_strings_that_are_no_text(self):
        for text in ["", "\n", " ", "task", "task 0", "a\nb", "0", "none", "tasks 0 0", "Task 0 0"]:
            with self.assertRaises(NoText) as caught:
                read_build(text)
            self.assertEqual(caught.exception.line, 0)

    def test_tasks(self):
        for side in range(4):
            for other in range(4):
                lines = [f"task {side} 0", f"task {side} 2", f"task {side} 1", f"task {other} 1"]
                if side == other:
                    self.assertEqual(self.fault(*lines, *REST), 3)
                    self.assertEqual(self.fault(*lines[:3], *REST), 3)
                    self.assertEqual(self.fault(*lines[:2], *REST), 2)
                    self.assertEqual(self.fault(*lines[:3]), 3)
                    self.assertEqual(self.fault(*lines[:2]), 2)
                else:
                    self.assertEqual(len(read(*lines, *REST).tasks()), 4)
                    self.assertEqual(self.fault(*lines), 4)
                    self.assertEqual(self.fault(*lines, "task 3 0", *REST), 4)
                    # A fourth task of the side of the first ones is right where there is another side already.
                    self.assertEqual(len(read(lines[0], lines[3], lines[0], lines[0], *REST).tasks()), 4)
        for line in ("task 4 0", "task 0 3", "task -1 0", "task 0 -1", "task 00 0", "task 0 0 ", " task 0 0", "task  0 0"):
            self.assertEqual(self.fault(line, *LEAST), 0)

    def test_what_stands_first_behind_tasks_of_one_side(self):
        for line in ("page 0", "page 1 line 0", "port 1", "locks 0", "slots", "wipe", "", "right 0 hand 0"):
            self.assertEqual(self.fault("task 2 0", line), 1)
            self.assertEqual(self.fault("task 2 0", "task 2 0", line), 2)
            self.assertEqual(self.fault("task 2 0", "task 2 0", "task 2 0", line), 3)

    def test_each_number_at_its_bounds(self):
        for at, word, low, high in [(2, "locks", 0, 2), (3, "frames", 0, 3), (6, "levels", 1, 8)]:
            for number in range(-1, 15):
                lines = [*LEAST[:at], f"{word} {number}", *LEAST[at + 1:]]
                if low <= number <= high:
                    self.assertEqual(build_text(read(*lines)), "\n".join(lines))
                else:
                    self.assertEqual(self.fault(*lines), at)
        for number in range(-1, 7):
            lines = [*LEAST[:4], f"disk {number}", *LEAST[5:]]
            if number in (0, 2, 3, 4):
                self.assertEqual(read(*lines).disk(), number)
            else:
                self.assertEqual(self.fault(*lines), 4)
        for number in range(-1, 5):
            for part, fits in enumerate((1 <= number <= 3, 0 <= number <= 3, 0 <= number <= 2)):
                costs = [1, 0, 0]
                costs[part] = number
                lines = [*LEAST[:5], "costs %d %d %d" % tuple(costs), *LEAST[6:]]
                if fits:
                    self.assertEqual(read(*lines).costs(), tuple(costs))
                else:
                    self.assertEqual(self.fault(*lines), 5)

    def test_pages_and_ports(self):
        for many in range(5):
            lines = [*LEAST[:2], *["page 1 line 1"] * many, *LEAST[2:]]
            if many < 4:
                self.assertEqual(read(*lines).pages(), [1] * many)
            else:
                self.assertEqual(self.fault(*lines), 5)
        for many in range(4):
            lines = [*LEAST[:2], *["port 2"] * many, *LEAST[2:]]
            if many < 3:
                self.assertEqual(read(*lines).ports(), [2] * many)
            else:
                self.assertEqual(self.fault(*lines), 4)
        for line in ("page 2", "page -1", "page 0 line 2", "page 0 line", "page 0 line 0 ", "page 0 Line 0", "page 0 0", "port 0",
                     "port 3", "port", "port 1 1", "page 0 line none"):
            self.assertEqual(self.fault(*LEAST[:2], line, *LEAST[2:]), 2)
        self.assertEqual(self.fault(*LEAST[:2], "port 1", "page 0", *LEAST[2:]), 3)

    def test_slots(self):
        for many in range(7):
            lines = [*LEAST[:6], "slots", *["  1 12"] * many]
            if many == 0:
                self.assertEqual(self.fault(*lines), 7)
                self.assertEqual(self.fault(*lines, "wipe"), 7)
                self.assertEqual(self.fault(*lines, "right 0 hand 0"), 7)
            elif many < 5:
                self.assertEqual(read(*lines).plan(), ("slots", [(1, 12)] * many))
                self.assertEqual(read(*lines, "wipe").plan(), ("slots", [(1, 12)] * many))
            else:
                self.assertEqual(self.fault(*lines), 11)
        for line in ("  2 1", "  0 0", "  0 13", " 0 1", "   0 1", "0 1", "  0  1", "  0 1 ", "  0 01", "  0", "  -1 1", "\t0 1"):
            self.assertEqual(self.fault(*LEAST[:6], "slots", line), 7)
            self.assertEqual(self.fault(*LEAST[:6], "slots", "  0 1", line), 8)
        self.assertEqual(read("task 0 0", *LEAST[:6], "slots", "  2 1").plan(), ("slots", [(2, 1)]))
        self.assertEqual(self.fault(*LEAST[:6], "slots "), 6)
        self.assertEqual(self.fault(*LEAST, "slots", "  0 1"), 7)
        self.assertEqual(self.fault(*LEAST, "  0 1"), 7)

    def test_letters_from_outside(self):
        for ports in range(3):
            for port in range(3):
                for every in range(6):
                    lines = [*LEAST[:2], *["port 1"] * ports, *LEAST[2:], f"outside {port} {every}"]
                    if port < ports and 1 <= every <= 4:
                        self.assertEqual(read(*lines).outside(), (port, every))
                    else:
                        self.assertEqual(self.fault(*lines), 7 + ports)
        lines = [*LEAST[:2], "port 1", *LEAST[2:], "outside 0 1", "outside 0 1"]
        self.assertEqual(self.fault(*lines), 9)

    def test_flags(self):
        names = ["wipe", "pad", "lend", "share"]
        for bits in range(16):
            flags = [name for at, name in enumerate(names) if bits >> at & 1]
            build = read(*LEAST, *flags)
            self.assertEqual([build.wipe(), build.pad(), build.lend(), build.share()], [name in flags for name in names])
            if len(flags) > 1:
                self.assertEqual(self.fault(*LEAST, flags[1], flags[0], *flags[2:]), 8)
        for name in names:
            self.assertEqual(self.fault(*LEAST, name, name), 8)
            self.assertEqual(self.fault(*LEAST, name + " "), 7)
            self.assertEqual(self.fault(*LEAST, name, "outside 0 1"), 8)

    def rights(self, *lines, **changes):
        """The lines of a build with all things, up to its rights, and these lines."""
        parts = some(**{**FULL, "rights": None, **changes})
        return plain_text(parts).split("\n") + list(lines)

    def test_rights(self):
        base = len(self.rights())
        for line in ("right 4 read 0", "right -1 read 0", "right 0 read 3", "right 0 send 2", "right 0 lock 2", "right 0 hand 4",
                     "right 0 seek 1", "right 0 wait 0", "right 0 pass 0", "right 0 Read 0", "right 0 read", "right 0 read 0 0",
                     "right 0  read 0", "right 0 read 00", "right 0 read -1", "right 0 read 0 ", "right 0 none 0", "right 0 get",
                     "Right 0 read 0", "right 0 free 0", "right 0 sleep 1"):
            self.assertEqual(self.fault(*self.rights(line)), base)
            self.assertEqual(self.fault(*self.rights("right 0 hand 0", line)), base + 1)

    def test_rights_of_things_that_are_not_there(self):
        for name, changes in [("read 0", dict(pages=[], lines=[])), ("write 2", dict(pages=[0, 0], lines=[None, None])),
                              ("send 0", dict(ports=[], outside=None)), ("take 1", dict(ports=[1], outside=None)),
                              ("lock 0", dict(locks=0)), ("seek 0", dict(disk=0)),
                              ("hand 3", dict(tasks=FULL["tasks"][:3], plan=("levels", 1)))]:
            lines = self.rights(f"right 0 {name}", **changes)
            self.assertEqual(self.fault(*lines), len(lines) - 1)
            self.assertEqual(len(read(*self.rights(f"right 0 {name}")).rights()[0]), 1)

    def test_rights_that_do_not_ascend(self):
        base = len(self.rights())
        for one, other in [("0 read 0", "0 read 0"), ("0 read 1", "0 read 0"), ("0 write 0", "0 read 0"), ("0 send 0", "0 seek 0"),
                           ("1 read 0", "0 read 0"), ("1 read 0", "0 write 0"), ("3 hand 0", "2 write 2"), ("2 strip 0", "2 send 1")]:
            self.assertEqual(self.fault(*self.rights(f"right {one}", f"right {other}")), base + 1)
            if one != other:
                self.assertEqual(self.fault(*self.rights(f"right {other}", f"right {one}", f"right {other}")), base + 2)

    def test_eight_rights_of_a_task(self):
        base = len(self.rights())
        words = ["hand 0", "hand 1", "hand 2", "hand 3", "lock 0", "lock 1", "read 0", "read 1", "read 2"]
        for task in range(4):
            lines = [f"right {task} {word}" for word in words]
            self.assertEqual(self.fault(*self.rights(*lines)), base + 8)
            self.assertEqual(len(read(*self.rights(*lines[:8])).rights()[task]), 8)
            self.assertEqual(self.fault(*self.rights(*lines[:8], f"right {task} write 0")), base + 8)
            if task < 3:
                self.assertEqual(len(read(*self.rights(*lines[:8], f"right {task + 1} read 0")).rights()[task + 1]), 1)

    def test_texts_that_end_early(self):
        lines = FULL_TEXT.split("\n")
        for many in range(1, len(lines)):
            text = "\n".join(lines[:many])
            self.assertEqual(self.check(text), many if many < 15 else None)
            self.assertEqual(self.check(text + "\n"), many)
        for many in range(1, 8):
            text = "\n".join(LEAST[:many])
            self.assertEqual(self.check(text), many if many < 7 else None)
            self.assertEqual(self.check(text + "\n"), many)
        self.assertEqual(self.check(FULL_TEXT + "\n"), len(lines))
        self.assertEqual(self.check("\n" + FULL_TEXT), 0)

    def test_lines_left_out_put_in_twice_and_exchanged(self):
        lines = FULL_TEXT.split("\n")
        for at in range(len(lines)):
            self.check("\n".join(lines[:at] + lines[at + 1:]))
            self.check("\n".join(lines[:at + 1] + lines[at:]))
            for other in range(at):
                changed = list(lines)
                changed[at], changed[other] = changed[other], changed[at]
                self.check("\n".join(changed))
            for line in ("", "task 0 0", "page 0", "port 1", "locks 0", "wipe", "share", "right 0 hand 0", "  0 1", "slots", "end"):
                self.check("\n".join(lines[:at] + [line] + lines[at:]))
        self.check("\n".join(lines[::-1]))

    def test_signs_changed_at_any_place(self):
        for text, signs in ((FULL_TEXT, "0 "), ("\n".join(LEAST), " 0-+\n1T9")):
            for at in range(len(text) + 1):
                for sign in signs:
                    self.check(text[:at] + sign + text[at:])
                    self.check(text[:at] + sign + text[at + 1:])
                self.check(text[:at] + text[at + 1:])
                if text[at:at + 1].islower():
                    self.check(text[:at] + text[at].upper() + text[at + 1:])

    def test_digits_beyond_all_bounds(self):
        lines = FULL_TEXT.split("\n")
        for digits in ("9" * 4900, "0" * 4900, "1" + "0" * 4400):
            for at, line in enumerate(lines[:16]):
                for word in re.findall(r"\d+", line):
                    self.assertEqual(self.fault(*lines[:at], line.replace(word, digits, 1), *lines[at + 1:]), at)
        for digits in ("9" * 4300, "0" * 4000):
            self.assertEqual(self.fault(*lines[:22], f"right 0 hand {digits}"), 22)
            self.assertEqual(self.fault(*lines[:22], f"right {digits} hand 0"), 22)

    def test_long_texts(self):
        self.assertEqual(self.fault(*["task 0 0"] * 500), 3)
        self.assertEqual(self.fault("\n" * 5000), 0)
        self.assertEqual(self.fault(" " * 5000), 0)
        self.assertEqual(self.fault(*LEAST, *["wipe"] * 900), 8)
        self.assertEqual(self.fault("x" * 5000), 0)

    def test_drawn_changes(self):
        rng = random.Random(82)
        met = {True: 0, False: 0}
        for _ in range(900):
            lines = plain_text(some_parts(rng)).split("\n")
            others = plain_text(some_parts(rng)).split("\n")
            for _ in range(rng.randint(0, 2)):
                at = rng.randrange(len(lines) + 1)
                kind = rng.choice(["out", "in", "cut", "sign", "turn", "other"])
                if kind == "out":
                    del lines[at:at + 1]
                elif kind == "in":
                    lines.insert(at, rng.choice(lines + others))
                elif kind == "cut":
                    lines = lines[:max(1, at)]
                elif kind == "turn":
                    lines = lines[:at] + lines[at:][::-1]
                elif kind == "other":
                    lines[at:at + 1] = others[at:at + 1]
                elif lines:
                    line = lines[at % len(lines)]
                    spot = rng.randrange(len(line) + 1)
                    lines[at % len(lines)] = line[:spot] + rng.choice(" 0123456789-aZ") + line[spot + rng.randint(0, 1):]
                lines = lines or [""]
            met[self.check("\n".join(lines)) is None] += 1
        self.assertGreater(min(met.values()), 150)


class TestValues(unittest.TestCase):
    def test_lists_are_new(self):
        build = read_build(FULL_TEXT)
        for name in FULL:
            part = getattr(build, name)()
            self.assertTrue(has_own_lists(part))
        self.assertTrue(build == read_build(FULL_TEXT))

    def test_nothing_that_is_handed_in_is_changed(self):
        build = Build(**copy.deepcopy(FULL))
        build_text(build)
        self.assertTrue(build == Build(**FULL))


if __name__ == "__main__":
    unittest.main()
