"""What the tests share: builds with few words, odd values, and a second kernel to hold the program against.

The second kernel, Plain, is written from DOC.md alone: it is led on lists and dicts that are changed in place.
"""

import copy
from math import gcd

from hushkernel.builds import Build
from hushkernel.moments import first


def some(**changes):
    """The arguments of a small build, by their names: two sides, two levels tasks, all things that there are."""
    parts = {
        "tasks": [(0, 0), (1, 0)],
        "pages": [0, 1],
        "ports": [1],
        "locks": 1,
        "frames": 0,
        "disk": 0,
        "rights": None,
        "lines": None,
        "costs": (1, 0, 0),
        "plan": ("levels", 1),
        "outside": None,
    }
    parts.update(changes)
    if parts["rights"] is None:
        parts["rights"] = [[] for _ in parts["tasks"]]
    if parts["lines"] is None:
        parts["lines"] = [None for _ in parts["pages"]]
    return parts


def start(**changes):
    """The first moment of such a build."""
    return first(Build(**some(**changes)))


def led(moment, *acts):
    """The list of what is seen, and the moment behind acts; a call alone is an act without a letter."""
    seen = []
    for act in acts:
        letter, call = act if isinstance(act, list) else (None, act)
        sight, moment = moment.tick(letter, call)
        seen.append(sight)
    return seen, moment


def deep(kind, times):
    """A value that is nested so deep."""
    found = 0
    for _ in range(times):
        found = {"list": [found], "tuple": (found,), "dict": {"": found}}[kind]
    return found


def odd_values():
    """Values of each kind that may be handed in where a point names an error."""
    build = Build(**some())
    numbers = [-(10 ** 40), -2, -1, 0, 1, 2, 3, 4, 5, 500, 10 ** 40]
    words = ["", "0", "1", "pass", "read", "levels", "stuck", "x" * 50, "a\nb"]
    lists = [[], [0], [1], [0, 1], [None], [True], [[]], [()], ["pass"], [build], [0, 0], [1, 0], [0, "1"], [[0], (1,)]]
    tuples = [(), (0,), (1,), (0, 1), (None, None), (True, False), ((),), ([],), ("pass",), ("read", 0), ("stuck",),
              ("x",), (build,), ("hand", 0, ["read", 0]), ("read", {}), ([], "read"), (None,)]
    dicts = [{}, {0: 1}, {"pass": ("pass",)}, {(0, 1): [build]}]
    nested = [deep(kind, 29) for kind in ("list", "tuple", "dict")] + [("read", deep("list", 28))]
    return [None, True, False, *numbers, *words, *lists, *tuples, *dicts, build, first(build), *nested]


def lists_within(value):
    """Each list in a value, as often as it is met."""
    if isinstance(value, (list, tuple)):
        own = [value] if isinstance(value, list) else []
        return own + [row for item in value for row in lists_within(item)]
    return []


def has_own_lists(value):
    """Whether no two lists within a value are the same object."""
    places = [id(row) for row in lists_within(value)]
    return len(places) == len(set(places))


def spoil(value):
    """Change each list within a value."""
    for row in lists_within(value):
        row.append("spoilt")


class Plain:
    def __init__(self, parts):
        """`parts`: a dict of the arguments of Build, by their names."""
        self.p = copy.deepcopy(parts)
        for name in ("wipe", "pad", "lend", "share"):
            self.p.setdefault(name, False)
        count = len(self.p["tasks"])
        self.tasks = [
            {"status": ("ready",), "answer": None, "rights": list(self.p["rights"][t]), "frames": 0}
            for t in range(count)
        ]
        self.pages = list(self.p["pages"])
        self.ports = [[] for _ in self.p["ports"]]
        self.locks = [{"holder": None, "queue": []} for _ in range(self.p["locks"])]
        self.lines = [None, None]
        self.head = 0
        self.runs, self.spent, self.busy, self.phase = None, 0, 0, 0

    def shape(self):
        return (
            tuple(t["status"] for t in self.tasks),
            tuple(t["answer"] for t in self.tasks),
            tuple(tuple(t["rights"]) for t in self.tasks),
            tuple(t["frames"] for t in self.tasks),
            tuple(self.pages),
            tuple(tuple(q) for q in self.ports),
            tuple((lock["holder"], tuple(lock["queue"])) for lock in self.locks),
            tuple(self.lines),
            self.head,
            (self.runs, self.spent, self.busy, self.phase),
        )

    def period(self):
        found = 1
        if self.p["outside"] is not None:
            found = self.p["outside"][1]
        if self.p["plan"][0] == "slots":
            total = sum(ticks for _, ticks in self.p["plan"][1])
            found = found * total // gcd(found, total)
        return found

    def letters(self):
        if self.p["outside"] is not None and self.phase % self.p["outside"][1] == 0:
            return [None, 0, 1]
        return [None]

    def greatest(self):
        plain, miss, _ = self.p["costs"]
        return plain + max(miss, self.p["disk"] - 1 if self.p["disk"] else 0)

    def arrive(self, port, letter):
        for task in self.tasks:
            if task["status"] == ("waits", port):
                task["status"], task["answer"] = ("ready",), str(letter)
                return
        if len(self.ports[port]) < self.p["ports"][port]:
            self.ports[port].append(letter)

    def begin(self, letter):
        """Steps 1 to 3, and who has its turn in step 4."""
        if letter is not None:
            self.arrive(self.p["outside"][0], letter)
        for task in self.tasks:
            if task["status"][0] == "asleep":
                left = task["status"][1] - 1
                task["status"] = ("asleep", left) if left else ("ready",)
                task["answer"] = None if left else "yes"
        if self.busy:
            self.busy -= 1
        if self.busy:
            return None
        return self.by_slots() if self.p["plan"][0] == "slots" else self.by_levels()

    def by_slots(self):
        rows = self.p["plan"][1]
        at = self.phase % sum(ticks for _, ticks in rows)
        for task, ticks in rows:
            if at < ticks:
                break
            at -= ticks
        if at == 0 and self.runs != task:
            self.switched(task)
        ready = self.tasks[task]["status"] == ("ready",)
        enough = at >= self.p["costs"][2] and ticks - at >= self.greatest()
        return task if ready and enough else None

    def level(self, task):
        found = self.p["tasks"][task][1]
        if self.p["lend"]:
            for other in range(len(self.tasks)):
                at = other
                for _ in range(len(self.tasks)):
                    status = self.tasks[at]["status"]
                    if status[0] != "locked":
                        break
                    at = self.locks[status[1]]["holder"]
                    if at == task:
                        found = max(found, self.p["tasks"][other][1])
        return found

    def by_levels(self):
        ready = [t for t, task in enumerate(self.tasks) if task["status"] == ("ready",)]
        if not ready:
            self.runs, self.spent = None, 0
            return None
        top = max(self.level(t) for t in ready)
        candidates = [t for t in ready if self.level(t) == top]
        if self.runs in candidates and self.spent < self.p["plan"][1]:
            return self.runs
        count = len(self.tasks)
        start = -1 if self.runs is None else self.runs
        order = [(start + 1 + k) % count for k in range(count)]
        chosen = [t for t in order if t in candidates][0]
        self.spent = 0
        if chosen == self.runs:
            return chosen
        self.switched(chosen)
        if self.p["costs"][2] == 0:
            return chosen
        self.busy = self.p["costs"][2]
        return None

    def switched(self, task):
        sides = [side for side, _ in self.p["tasks"]]
        if self.p["wipe"] and (self.runs is None or sides[self.runs] != sides[task]):
            self.lines = [None, None]
        self.runs = task

    def tick(self, letter, call):
        turn = self.begin(letter)
        seen = None
        if turn is not None:
            seen = (turn, self.tasks[turn]["answer"])
            self.tasks[turn]["answer"] = None
            cost = self.cost(turn, call)
            answer = self.effect(turn, call)
            if self.tasks[turn]["status"] == ("ready",):
                self.tasks[turn]["answer"] = answer
            self.busy = cost
            if self.p["plan"][0] == "levels":
                self.spent += cost
        self.phase = (self.phase + 1) % self.period()
        return seen

    def cost(self, turn, call):
        plain, miss, _ = self.p["costs"]
        cost = plain
        rights = self.tasks[turn]["rights"]
        if call[0] in ("read", "write") and (call[0], call[1]) in rights:
            line = self.p["lines"][call[1]]
            if line is None or self.lines[line] != call[1]:
                cost += miss
            if line is not None:
                self.lines[line] = call[1]
        if call[0] == "seek" and ("seek", 0) in rights:
            cost += abs(call[1] - self.head)
        return self.greatest() if self.p["pad"] else cost

    def effect(self, turn, call):
        me = self.tasks[turn]
        word = call[0]
        if word == "pass":
            return "yes"
        if word == "sleep":
            me["status"] = ("asleep", call[1])
            return None
        if word == "free":
            return self.free(turn, call[1])
        if word in ("get", "give"):
            return self.frame(turn, word)
        if word in ("hand", "strip"):
            return self.right(turn, word, call[1], call[2])
        needed = ("take" if word == "wait" else word, 0 if word == "seek" else call[1])
        if needed not in me["rights"]:
            return "no"
        return getattr(self, "do_" + word)(turn, *call[1:])

    def do_read(self, turn, page):
        return str(self.pages[page])

    def do_write(self, turn, page, value):
        self.pages[page] = value
        return "yes"

    def do_send(self, turn, port, value):
        waits = any(t["status"] == ("waits", port) for t in self.tasks)
        if not waits and len(self.ports[port]) >= self.p["ports"][port]:
            return "no"
        self.arrive(port, value)
        return "yes"

    def do_take(self, turn, port):
        return str(self.ports[port].pop(0)) if self.ports[port] else "empty"

    def do_wait(self, turn, port):
        if self.ports[port]:
            return str(self.ports[port].pop(0))
        self.tasks[turn]["status"] = ("waits", port)
        return None

    def do_lock(self, turn, lock):
        if self.locks[lock]["holder"] == turn:
            return "no"
        if self.locks[lock]["holder"] is None:
            self.locks[lock]["holder"] = turn
            return "yes"
        self.locks[lock]["queue"].append(turn)
        self.tasks[turn]["status"] = ("locked", lock)
        return None

    def do_seek(self, turn, place):
        self.head = place
        return "yes"

    def free(self, turn, lock):
        if self.locks[lock]["holder"] != turn:
            return "no"
        heir = self.locks[lock]["queue"].pop(0) if self.locks[lock]["queue"] else None
        self.locks[lock]["holder"] = heir
        if heir is not None:
            self.tasks[heir]["status"], self.tasks[heir]["answer"] = ("ready",), "yes"
        return "yes"

    def frame(self, turn, word):
        if word == "give":
            if self.tasks[turn]["frames"] == 0:
                return "no"
            self.tasks[turn]["frames"] -= 1
            return "yes"
        if sum(t["frames"] for t in self.tasks) == self.p["frames"]:
            return "no"
        sides = [side for side, _ in self.p["tasks"]]
        if self.p["share"]:
            ours = sum(t["frames"] for t, side in zip(self.tasks, sides) if side == sides[turn])
            if ours >= self.p["frames"] // len(set(sides)):
                return "no"
        self.tasks[turn]["frames"] += 1
        return "yes"

    def right(self, turn, word, other, right):
        if (word, other) not in self.tasks[turn]["rights"]:
            return "no"
        theirs = self.tasks[other]["rights"]
        if word == "strip":
            if right not in theirs:
                return "no"
            theirs.remove(right)
            return "yes"
        if right not in self.tasks[turn]["rights"]:
            return "no"
        if right not in theirs:
            theirs.append(right)
            theirs.sort()
        return "yes"

    def calls(self, letter):
        """The calls worth trying with this letter."""
        turn = copy.deepcopy(self).begin(letter)
        if turn is None:
            return []
        me = self.tasks[turn]
        found = []
        for word, at in me["rights"]:
            if word == "read":
                found += [("read", at)]
            if word == "write":
                found += [("write", at, 0), ("write", at, 1)]
            if word == "send":
                found += [("send", at, 0), ("send", at, 1)]
            if word == "take":
                found += [("take", at), ("wait", at)]
            if word == "lock":
                found += [("lock", at), ("free", at)]
            if word == "hand":
                found += [("hand", at, right) for right in me["rights"]]
            if word == "strip":
                found += [("strip", at, right) for right in self.tasks[at]["rights"]]
            if word == "seek":
                found += [("seek", place) for place in range(self.p["disk"])]
        if self.p["frames"]:
            found += [("get",)]
            if me["frames"]:
                found += [("give",)]
        found += [("sleep", 1), ("sleep", 2), ("pass",)]
        for at, lock in enumerate(self.locks):
            if lock["holder"] == turn and ("lock", at) not in me["rights"]:
                found += [("free", at)]
        return found


def all_rights(parts):
    """Each right of a build, ascending."""
    found = [(word, at) for word in ("read", "write") for at in range(len(parts["pages"]))]
    found += [(word, at) for word in ("send", "take") for at in range(len(parts["ports"]))]
    found += [("lock", at) for at in range(parts["locks"])]
    found += [(word, at) for word in ("hand", "strip") for at in range(len(parts["tasks"]))]
    found += [("seek", 0)] if parts["disk"] else []
    return sorted(found)


def all_calls(parts):
    """Each call of a build."""
    rights = all_rights(parts)
    tasks = range(len(parts["tasks"]))
    found = [("read", p) for p in range(len(parts["pages"]))]
    found += [("write", p, v) for p in range(len(parts["pages"])) for v in (0, 1)]
    for port in range(len(parts["ports"])):
        found += [("send", port, 0), ("send", port, 1), ("take", port), ("wait", port)]
    for lock in range(parts["locks"]):
        found += [("lock", lock), ("free", lock)]
    found += [(word, t, right) for word in ("hand", "strip") for t in tasks for right in rights]
    found += [("seek", place) for place in range(parts["disk"])]
    return found + [("sleep", 1), ("sleep", 2), ("get",), ("give",), ("pass",)]


def some_parts(rng):
    """The parts of some build, by a random source."""
    count = rng.randint(2, 4)
    sides = [rng.randint(0, 3) for _ in range(count)]
    while len(set(sides)) < 2:
        sides = [rng.randint(0, 3) for _ in range(count)]
    parts = {
        "tasks": [(side, rng.randint(0, 2)) for side in sides],
        "pages": [rng.randint(0, 1) for _ in range(rng.randint(0, 3))],
        "ports": [rng.randint(1, 2) for _ in range(rng.randint(0, 2))],
        "locks": rng.randint(0, 2),
        "frames": rng.randint(0, 3),
        "disk": rng.choice([0, 2, 3, 4]),
    }
    rights = all_rights(parts)
    parts["rights"] = [sorted(rng.sample(rights, rng.randint(0, min(8, len(rights))))) for _ in range(count)]
    parts["lines"] = [rng.choice([None, 0, 1]) for _ in parts["pages"]]
    parts["costs"] = (rng.randint(1, 3), rng.randint(0, 3), rng.randint(0, 2))
    parts["plan"] = ("levels", rng.randint(1, 8))
    if rng.random() < 0.5:
        rows = [(rng.randrange(count), rng.randint(1, 12)) for _ in range(rng.randint(1, 4))]
        parts["plan"] = ("slots", rows)
    parts["outside"] = None
    if parts["ports"] and rng.random() < 0.6:
        parts["outside"] = (rng.randrange(len(parts["ports"])), rng.randint(1, 4))
    for flag in ("wipe", "pad", "lend", "share"):
        parts[flag] = rng.random() < 0.5
    return parts


def small_parts(rng):
    """The parts of a build whose graph is mostly small."""
    parts = some_parts(rng)
    parts["tasks"] = parts["tasks"][:2]
    parts["tasks"][1] = ((parts["tasks"][0][0] + 1) % 4, parts["tasks"][1][1])
    parts["frames"] = min(parts["frames"], 1)
    rights = all_rights(parts)
    parts["rights"] = [sorted(rng.sample(rights, min(2, len(rights)))) for _ in range(2)]
    if parts["plan"][0] == "slots":
        parts["plan"] = ("slots", [(t % 2, min(ticks, 4)) for t, ticks in parts["plan"][1][:2]])
    return parts
