"""What the tests share: builds with few words, odd values, and a second kernel to hold the program against.

The second kernel, Plain, is written from DOC.md alone: it is led on lists and dicts that are changed in place. So are
the second search and the second judges, Side, which take nothing of the package but moments.
"""

import copy
from math import gcd

from hushkernel.builds import Build
from hushkernel.live import Live
from hushkernel.moments import Moment, first


def some(**changes):
    """The arguments of a small build, by their names: two sides, two levels tasks, all things that there are."""
    parts = {
        "tasks": [(0, 0), (1, 0)],
        "pages": [0, 1],
        "ports": [1],
        "locks": 1,
        "frames": 0,
        "disk": 0,
        "rights": None,
        "lines": None,
        "costs": (1, 0, 0),
        "plan": ("levels", 1),
        "outside": None,
    }
    parts.update(changes)
    if parts["rights"] is None:
        parts["rights"] = [[] for _ in parts["tasks"]]
    if parts["lines"] is None:
        parts["lines"] = [None for _ in parts["pages"]]
    return parts


def start(**changes):
    """The first moment of such a build."""
    return first(Build(**some(**changes)))


def led(moment, *acts):
    """The list of what is seen, and the moment behind acts; a call alone is an act without a letter."""
    seen = []
    for act in acts:
        letter, call = act if isinstance(act, list) else (None, act)
        sight, moment = moment.tick(letter, call)
        seen.append(sight)
    return seen, moment


def deep(kind, times):
    """A value that is nested so deep."""
    found = 0
    for _ in range(times):
        found = {"list": [found], "tuple": (found,), "dict": {"": found}}[kind]
    return found


def odd_values():
    """Values of each kind that may be handed in where a point names an error."""
    build = Build(**some())
    numbers = [-(10 ** 40), -2, -1, 0, 1, 2, 3, 4, 5, 500, 10 ** 40]
    words = ["", "0", "1", "pass", "read", "levels", "stuck", "x" * 50, "a\nb"]
    lists = [[], [0], [1], [0, 1], [None], [True], [[]], [()], ["pass"], [build], [0, 0], [1, 0], [0, "1"], [[0], (1,)]]
    tuples = [(), (0,), (1,), (0, 1), (None, None), (True, False), ((),), ([],), ("pass",), ("read", 0), ("stuck",),
              ("x",), (build,), ("hand", 0, ["read", 0]), ("read", {}), ([], "read"), (None,)]
    dicts = [{}, {0: 1}, {"pass": ("pass",)}, {(0, 1): [build]}]
    nested = [deep(kind, 29) for kind in ("list", "tuple", "dict")] + [("read", deep("list", 28))]
    things = [build, first(build), Live(build)]
    return [None, True, False, *numbers, *words, *lists, *tuples, *dicts, *things, *nested]


def lists_within(value):
    """Each list in a value, as often as it is met."""
    if isinstance(value, (list, tuple)):
        own = [value] if isinstance(value, list) else []
        return own + [row for item in value for row in lists_within(item)]
    return []


def has_own_lists(value):
    """Whether no two lists within a value are the same object."""
    places = [id(row) for row in lists_within(value)]
    return len(places) == len(set(places))


def spoil(value):
    """Change each list within a value."""
    for row in lists_within(value):
        row.append("spoilt")


class Plain:
    def __init__(self, parts):
        """`parts`: a dict of the arguments of Build, by their names."""
        self.p = copy.deepcopy(parts)
        for name in ("wipe", "pad", "lend", "share"):
            self.p.setdefault(name, False)
        count = len(self.p["tasks"])
        self.tasks = [
            {"status": ("ready",), "answer": None, "rights": list(self.p["rights"][t]), "frames": 0}
            for t in range(count)
        ]
        self.pages = list(self.p["pages"])
        self.ports = [[] for _ in self.p["ports"]]
        self.locks = [{"holder": None, "queue": []} for _ in range(self.p["locks"])]
        self.lines = [None, None]
        self.head = 0
        self.runs, self.spent, self.busy, self.phase = None, 0, 0, 0

    def shape(self):
        return (
            tuple(t["status"] for t in self.tasks),
            tuple(t["answer"] for t in self.tasks),
            tuple(tuple(t["rights"]) for t in self.tasks),
            tuple(t["frames"] for t in self.tasks),
            tuple(self.pages),
            tuple(tuple(q) for q in self.ports),
            tuple((lock["holder"], tuple(lock["queue"])) for lock in self.locks),
            tuple(self.lines),
            self.head,
            (self.runs, self.spent, self.busy, self.phase),
        )

    def period(self):
        found = 1
        if self.p["outside"] is not None:
            found = self.p["outside"][1]
        if self.p["plan"][0] == "slots":
            total = sum(ticks for _, ticks in self.p["plan"][1])
            found = found * total // gcd(found, total)
        return found

    def letters(self):
        if self.p["outside"] is not None and self.phase % self.p["outside"][1] == 0:
            return [None, 0, 1]
        return [None]

    def greatest(self):
        plain, miss, _ = self.p["costs"]
        return plain + max(miss, self.p["disk"] - 1 if self.p["disk"] else 0)

    def arrive(self, port, letter):
        for task in self.tasks:
            if task["status"] == ("waits", port):
                task["status"], task["answer"] = ("ready",), str(letter)
                return
        if len(self.ports[port]) < self.p["ports"][port]:
            self.ports[port].append(letter)

    def begin(self, letter):
        """Steps 1 to 3, and who has its turn in step 4."""
        if letter is not None:
            self.arrive(self.p["outside"][0], letter)
        for task in self.tasks:
            if task["status"][0] == "asleep":
                left = task["status"][1] - 1
                task["status"] = ("asleep", left) if left else ("ready",)
                task["answer"] = None if left else "yes"
        if self.busy:
            self.busy -= 1
        if self.busy:
            return None
        return self.by_slots() if self.p["plan"][0] == "slots" else self.by_levels()

    def by_slots(self):
        rows = self.p["plan"][1]
        at = self.phase % sum(ticks for _, ticks in rows)
        for task, ticks in rows:
            if at < ticks:
                break
            at -= ticks
        if at == 0 and self.runs != task:
            self.switched(task)
        ready = self.tasks[task]["status"] == ("ready",)
        enough = at >= self.p["costs"][2] and ticks - at >= self.greatest()
        return task if ready and enough else None

    def level(self, task):
        found = self.p["tasks"][task][1]
        if self.p["lend"]:
            for other in range(len(self.tasks)):
                at = other
                for _ in range(len(self.tasks)):
                    status = self.tasks[at]["status"]
                    if status[0] != "locked":
                        break
                    at = self.locks[status[1]]["holder"]
                    if at == task:
                        found = max(found, self.p["tasks"][other][1])
        return found

    def by_levels(self):
        ready = [t for t, task in enumerate(self.tasks) if task["status"] == ("ready",)]
        if not ready:
            self.runs, self.spent = None, 0
            return None
        top = max(self.level(t) for t in ready)
        candidates = [t for t in ready if self.level(t) == top]
        if self.runs in candidates and self.spent < self.p["plan"][1]:
            return self.runs
        count = len(self.tasks)
        start = -1 if self.runs is None else self.runs
        order = [(start + 1 + k) % count for k in range(count)]
        chosen = [t for t in order if t in candidates][0]
        self.spent = 0
        if chosen == self.runs:
            return chosen
        self.switched(chosen)
        if self.p["costs"][2] == 0:
            return chosen
        self.busy = self.p["costs"][2]
        return None

    def switched(self, task):
        sides = [side for side, _ in self.p["tasks"]]
        if self.p["wipe"] and (self.runs is None or sides[self.runs] != sides[task]):
            self.lines = [None, None]
        self.runs = task

    def tick(self, letter, call):
        turn = self.begin(letter)
        seen = None
        if turn is not None:
            seen = (turn, self.tasks[turn]["answer"])
            self.tasks[turn]["answer"] = None
            cost = self.cost(turn, call)
            answer = self.effect(turn, call)
            if self.tasks[turn]["status"] == ("ready",):
                self.tasks[turn]["answer"] = answer
            self.busy = cost
            if self.p["plan"][0] == "levels":
                self.spent += cost
        self.phase = (self.phase + 1) % self.period()
        return seen

    def cost(self, turn, call):
        plain, miss, _ = self.p["costs"]
        cost = plain
        rights = self.tasks[turn]["rights"]
        if call[0] in ("read", "write") and (call[0], call[1]) in rights:
            line = self.p["lines"][call[1]]
            if line is None or self.lines[line] != call[1]:
                cost += miss
            if line is not None:
                self.lines[line] = call[1]
        if call[0] == "seek" and ("seek", 0) in rights:
            cost += abs(call[1] - self.head)
        return self.greatest() if self.p["pad"] else cost

    def effect(self, turn, call):
        me = self.tasks[turn]
        word = call[0]
        if word == "pass":
            return "yes"
        if word == "sleep":
            me["status"] = ("asleep", call[1])
            return None
        if word == "free":
            return self.free(turn, call[1])
        if word in ("get", "give"):
            return self.frame(turn, word)
        if word in ("hand", "strip"):
            return self.right(turn, word, call[1], call[2])
        needed = ("take" if word == "wait" else word, 0 if word == "seek" else call[1])
        if needed not in me["rights"]:
            return "no"
        return getattr(self, "do_" + word)(turn, *call[1:])

    def do_read(self, turn, page):
        return str(self.pages[page])

    def do_write(self, turn, page, value):
        self.pages[page] = value
        return "yes"

    def do_send(self, turn, port, value):
        waits = any(t["status"] == ("waits", port) for t in self.tasks)
        if not waits and len(self.ports[port]) >= self.p["ports"][port]:
            return "no"
        self.arrive(port, value)
        return "yes"

    def do_take(self, turn, port):
        return str(self.ports[port].pop(0)) if self.ports[port] else "empty"

    def do_wait(self, turn, port):
        if self.ports[port]:
            return str(self.ports[port].pop(0))
        self.tasks[turn]["status"] = ("waits", port)
        return None

    def do_lock(self, turn, lock):
        if self.locks[lock]["holder"] == turn:
            return "no"
        if self.locks[lock]["holder"] is None:
            self.locks[lock]["holder"] = turn
            return "yes"
        self.locks[lock]["queue"].append(turn)
        self.tasks[turn]["status"] = ("locked", lock)
        return None

    def do_seek(self, turn, place):
        self.head = place
        return "yes"

    def free(self, turn, lock):
        if self.locks[lock]["holder"] != turn:
            return "no"
        heir = self.locks[lock]["queue"].pop(0) if self.locks[lock]["queue"] else None
        self.locks[lock]["holder"] = heir
        if heir is not None:
            self.tasks[heir]["status"], self.tasks[heir]["answer"] = ("ready",), "yes"
        return "yes"

    def frame(self, turn, word):
        if word == "give":
            if self.tasks[turn]["frames"] == 0:
                return "no"
            self.tasks[turn]["frames"] -= 1
            return "yes"
        if sum(t["frames"] for t in self.tasks) == self.p["frames"]:
            return "no"
        sides = [side for side, _ in self.p["tasks"]]
        if self.p["share"]:
            ours = sum(t["frames"] for t, side in zip(self.tasks, sides) if side == sides[turn])
            if ours >= self.p["frames"] // len(set(sides)):
                return "no"
        self.tasks[turn]["frames"] += 1
        return "yes"

    def right(self, turn, word, other, right):
        if (word, other) not in self.tasks[turn]["rights"]:
            return "no"
        theirs = self.tasks[other]["rights"]
        if word == "strip":
            if right not in theirs:
                return "no"
            theirs.remove(right)
            return "yes"
        if right not in self.tasks[turn]["rights"]:
            return "no"
        if right not in theirs:
            theirs.append(right)
            theirs.sort()
        return "yes"

    def calls(self, letter):
        """The calls worth trying with this letter."""
        turn = copy.deepcopy(self).begin(letter)
        if turn is None:
            return []
        me = self.tasks[turn]
        found = []
        for word, at in me["rights"]:
            if word == "read":
                found += [("read", at)]
            if word == "write":
                found += [("write", at, 0), ("write", at, 1)]
            if word == "send":
                found += [("send", at, 0), ("send", at, 1)]
            if word == "take":
                found += [("take", at), ("wait", at)]
            if word == "lock":
                found += [("lock", at), ("free", at)]
            if word == "hand":
                found += [("hand", at, right) for right in me["rights"]]
            if word == "strip":
                found += [("strip", at, right) for right in self.tasks[at]["rights"]]
            if word == "seek":
                found += [("seek", place) for place in range(self.p["disk"])]
        if self.p["frames"]:
            found += [("get",)]
            if me["frames"]:
                found += [("give",)]
        found += [("sleep", 1), ("sleep", 2), ("pass",)]
        for at, lock in enumerate(self.locks):
            if lock["holder"] == turn and ("lock", at) not in me["rights"]:
                found += [("free", at)]
        return found


def all_rights(parts):
    """Each right of a build, ascending."""
    found = [(word, at) for word in ("read", "write") for at in range(len(parts["pages"]))]
    found += [(word, at) for word in ("send", "take") for at in range(len(parts["ports"]))]
    found += [("lock", at) for at in range(parts["locks"])]
    found += [(word, at) for word in ("hand", "strip") for at in range(len(parts["tasks"]))]
    found += [("seek", 0)] if parts["disk"] else []
    return sorted(found)


def all_calls(parts):
    """Each call of a build."""
    rights = all_rights(parts)
    tasks = range(len(parts["tasks"]))
    found = [("read", p) for p in range(len(parts["pages"]))]
    found += [("write", p, v) for p in range(len(parts["pages"])) for v in (0, 1)]
    for port in range(len(parts["ports"])):
        found += [("send", port, 0), ("send", port, 1), ("take", port), ("wait", port)]
    for lock in range(parts["locks"]):
        found += [("lock", lock), ("free", lock)]
    found += [(word, t, right) for word in ("hand", "strip") for t in tasks for right in rights]
    found += [("seek", place) for place in range(parts["disk"])]
    return found + [("sleep", 1), ("sleep", 2), ("get",), ("give",), ("pass",)]


def some_parts(rng):
    """The parts of some build, by a random source."""
    count = rng.randint(2, 4)
    sides = [rng.randint(0, 3) for _ in range(count)]
    while len(set(sides)) < 2:
        sides = [rng.randint(0, 3) for _ in range(count)]
    parts = {
        "tasks": [(side, rng.randint(0, 2)) for side in sides],
        "pages": [rng.randint(0, 1) for _ in range(rng.randint(0, 3))],
        "ports": [rng.randint(1, 2) for _ in range(rng.randint(0, 2))],
        "locks": rng.randint(0, 2),
        "frames": rng.randint(0, 3),
        "disk": rng.choice([0, 2, 3, 4]),
    }
    rights = all_rights(parts)
    parts["rights"] = [sorted(rng.sample(rights, rng.randint(0, min(8, len(rights))))) for _ in range(count)]
    parts["lines"] = [rng.choice([None, 0, 1]) for _ in parts["pages"]]
    parts["costs"] = (rng.randint(1, 3), rng.randint(0, 3), rng.randint(0, 2))
    parts["plan"] = ("levels", rng.randint(1, 8))
    if rng.random() < 0.5:
        rows = [(rng.randrange(count), rng.randint(1, 12)) for _ in range(rng.randint(1, 4))]
        parts["plan"] = ("slots", rows)
    parts["outside"] = None
    if parts["ports"] and rng.random() < 0.6:
        parts["outside"] = (rng.randrange(len(parts["ports"])), rng.randint(1, 4))
    for flag in ("wipe", "pad", "lend", "share"):
        parts[flag] = rng.random() < 0.5
    return parts


def small_parts(rng):
    """The parts of a build whose graph is mostly small."""
    parts = some_parts(rng)
    parts["tasks"] = parts["tasks"][:2]
    parts["tasks"][1] = ((parts["tasks"][0][0] + 1) % 4, parts["tasks"][1][1])
    parts["frames"] = min(parts["frames"], 1)
    rights = all_rights(parts)
    parts["rights"] = [sorted(rng.sample(rights, min(2, len(rights)))) for _ in range(2)]
    if parts["plan"][0] == "slots":
        parts["plan"] = ("slots", [(t % 2, min(ticks, 4)) for t, ticks in parts["plan"][1][:2]])
    return parts


def twin_parts(rng):
    """The parts of a build with two to four sides, and few things, for which their rights are."""
    parts = some_parts(rng)
    count = rng.choice([2, 3, 3, 3, 4])
    sides = rng.sample(range(4), rng.randint(2, min(count, 4)))
    sides += [rng.choice(sides) for _ in range(count - len(sides))]
    parts["tasks"] = [(side, rng.choice([0, 0, 0, 1, 2])) for side in sides]
    rng.shuffle(parts["tasks"])
    parts["pages"] = parts["pages"][:rng.choice([0, 1, 1, 2])]
    parts["lines"] = parts["lines"][:len(parts["pages"])]
    parts["ports"] = parts["ports"][:rng.choice([0, 0, 1])]
    parts["locks"] = rng.choice([0, 0, 0, 1])
    parts["frames"] = rng.choice([0, 0, 0, 0, 1])
    parts["disk"] = rng.choice([0, 0, 0, 2, 3])
    rights = all_rights(parts)
    parts["rights"] = [sorted(rng.sample(rights, min(rng.randint(0, 3), len(rights)))) for _ in range(count)]
    parts["costs"] = (rng.choice([1, 1, 1, 2]), rng.choice([0, 0, 1]), rng.choice([0, 0, 0, 1]))
    parts["outside"] = None
    if parts["ports"] and rng.random() < 0.3:
        parts["outside"] = (rng.randrange(len(parts["ports"])), rng.randint(1, 4))
    parts["plan"] = ("levels", rng.randint(1, 4))
    if rng.random() < 0.8:
        greatest = parts["costs"][0] + max(parts["costs"][1], parts["disk"] - 1)
        rows = [(task, greatest + parts["costs"][2] + rng.choice([0, 0, 0, 1])) for task in range(count)]
        parts["plan"] = ("slots", rows)
    return parts


def some_roles(rng, build):
    """Lists of ones and of eyes, or None for the eyes."""
    sides = build.sides()
    ones = sorted(rng.sample(sides, rng.randint(1, max(1, len(sides) - 2))))
    others = [side for side in sides if side not in ones]
    eyes = None if rng.random() < 0.4 else sorted(rng.sample(others, rng.randint(1, len(others))))
    return ones, eyes


def letters_of(moment):
    """What may come from outside in the next tick."""
    outside = moment.build().outside()
    return [None, 0, 1] if outside is not None and moment.running()[3] % outside[1] == 0 else [None]


def later(rng, moment, ticks):
    """The moment behind so many ticks of a random source."""
    for _ in range(ticks):
        letter = rng.choice(letters_of(moment))
        moment = moment.tick(letter, rng.choice(moment.calls(letter) or [None]))[1]
    return moment


class Side:
    """Two moments side by side, as [22] to [24] tell it."""

    def __init__(self, build, ones, eyes=None):
        self.side_of = [side for side, _ in build.tasks()]
        tasks = range(len(self.side_of))
        self.ones = [t for t in tasks if self.side_of[t] in ones]
        self.eyes = [t for t in tasks if t not in self.ones and (eyes is None or self.side_of[t] in eyes)]
        self.thirds = [t for t in tasks if t not in self.ones and t not in self.eyes]

    def sees(self, task, moment, letter):
        """What a task sees in the next tick: a list of its answer, or nothing."""
        if moment.due(letter) != task:
            return "nothing"
        return [moment.tick(letter, ("pass",))[0][1]]

    def unlike(self, tasks, loud, quiet, letter):
        """Those of the tasks that see unlike things in the next tick."""
        return [t for t in tasks if self.sees(t, loud, letter) != self.sees(t, quiet, letter)]

    def harms(self, loud, quiet):
        return [letter for letter in letters_of(loud) if self.unlike(self.eyes, loud, quiet, letter)]

    def kind(self, loud, quiet, letter):
        return "answer" if loud.due(letter) is not None and loud.due(letter) == quiet.due(letter) else "time"

    def calls(self, loud, quiet, letter, knowing):
        """All let calls, as tuples (loud call, quiet call), in order."""
        mine, yours = loud.due(letter), quiet.due(letter)
        if mine is not None and mine == yours and mine not in self.ones and mine not in knowing:
            rest = [call for call in quiet.calls(letter) if call not in loud.calls(letter)]
            return [(call, call) for call in loud.calls(letter) + rest]
        mine_calls = [None] if mine is None else loud.calls(letter)
        your_calls = [None] if yours is None else quiet.calls(letter)
        if yours in self.ones:
            your_calls = [("pass",)]
        return [(one, other) for one in mine_calls for other in your_calls]

    def behind(self, loud, quiet, knowing):
        """All (letter, loud call, quiet call, triple) behind a triple that is not harmed."""
        found = []
        for letter in letters_of(loud):
            knows = sorted(set(knowing) | set(self.unlike(self.thirds, loud, quiet, letter)))
            hidden = sorted(self.ones + knows)
            pairs = self.calls(loud, quiet, letter, knows)
            loud_behind = {one: loud.tick(letter, one)[1].veiled(hidden) for one, _ in pairs}
            quiet_behind = {other: quiet.tick(letter, other)[1].veiled(hidden) for _, other in pairs}
            for one, other in pairs:
                found.append((letter, one, other, (loud_behind[one], quiet_behind[other], tuple(knows))))
        return found

    def first(self, moment):
        return (moment.veiled(self.ones), moment.veiled(self.ones), ())


class DoorSide(Side):
    """Two moments side by side, as [36] to [38] tell it."""

    def __init__(self, build, ones, doors, eyes=None):
        super().__init__(build, ones, eyes)
        self.doors = doors

    def spoken(self, moment, letter, call):
        task = moment.due(letter)
        if task not in self.ones or call[0] not in ("send", "write") or (call[0], call[1]) not in self.doors:
            return None
        return call if moment.tick(letter, call)[1].answer(task) == "yes" else None

    def calls(self, loud, quiet, letter, knowing):
        mine, yours = loud.due(letter), quiet.due(letter)
        if mine is not None and mine == yours and mine not in self.ones and mine not in knowing:
            return super().calls(loud, quiet, letter, knowing)
        ones = [(call, self.spoken(loud, letter, call)) for call in loud.calls(letter) or [None]]
        others = [(call, self.spoken(quiet, letter, call)) for call in quiet.calls(letter) or [None]]
        return [(one, other) for one, told in ones for other, heard in others if told == heard]


def key_of(triple):
    return (triple[0].shape(), triple[1].shape(), triple[2])


def plain_hush(moment, ones, eyes, most):
    """As [23] tells it: ("hushed", keys), ("tells", kind, rows), or ("many",); then how many triples are not harmed."""
    return plain_search(Side(moment.build(), ones, eyes), moment, most, "hushed")


def plain_kept(moment, ones, doors, eyes, most):
    """As [37] tells it; likewise."""
    return plain_search(DoorSide(moment.build(), ones, doors, eyes), moment, most, "kept")


def plain_search(side, moment, most, word):
    queue = [(side.first(moment), [])]
    keys = {key_of(queue[0][0]): True}
    harmed = side.harms(*queue[0][0][:2])
    if harmed:
        return ("tells", side.kind(*queue[0][0][:2], harmed[0]), [(harmed[0], None, None)]), 0
    for triple, rows in queue:
        for letter, one, other, after in side.behind(*triple):
            if key_of(after) in keys:
                continue
            harmed = side.harms(*after[:2])
            way = [*rows, (letter, one, other)]
            if harmed:
                return ("tells", side.kind(*after[:2], harmed[0]), [*way, (harmed[0], None, None)]), len(queue)
            if len(queue) == most:
                return ("many",), most + 1
            keys[key_of(after)] = True
            queue.append((after, way))
    return (word, list(keys)), len(queue)


def plain_closed(moment, ones, thing, eyes=None, doors=None):
    """As [24] tells `closed_fault`; with doors, as [38] tells `kept_fault`."""
    side = Side(moment.build(), ones, eyes) if doors is None else DoorSide(moment.build(), ones, doors, eyes)
    if not isinstance(thing, list) or not all(is_plain_triple(side, moment.build(), item) for item in thing):
        return ("form",)
    keys = [key_of(item) for item in thing]
    if key_of(side.first(moment)) not in keys:
        return ("first",)
    for k, item in enumerate(thing):
        for letter in side.harms(*item[:2]):
            return ("harmed", k, letter)
        for letter, one, other, after in side.behind(*item):
            if key_of(after) not in keys:
                return ("open", k, letter, one, other)
    return None


def is_plain_triple(side, build, item):
    if not (isinstance(item, tuple) and len(item) == 3 and isinstance(item[0], Moment) and isinstance(item[1], Moment)):
        return False
    if not (item[0].build() == build and item[1].build() == build and item[0].running()[3] == item[1].running()[3]):
        return False
    if not (isinstance(item[2], tuple) and all(type(t) is int and t in side.thirds for t in item[2])):
        return False
    return list(item[2]) == sorted(set(item[2]))


def plain_tells(moment, ones, thing, eyes=None, calls=None, doors=None):
    """As [24] tells `tells_fault`; `calls`: all calls of the build. With doors, as [38] tells `beside_fault`."""
    side = Side(moment.build(), ones, eyes) if doors is None else DoorSide(moment.build(), ones, doors, eyes)
    if not isinstance(thing, list) or thing == []:
        return ("form",)
    if not all(isinstance(row, tuple) and len(row) == 3 for row in thing):
        return ("form",)
    loud, quiet, knows = moment, moment, []
    for index, (letter, one, other) in enumerate(thing):
        if not (letter is None or type(letter) is int) or letter not in letters_of(loud):
            return ("act", index)
        parted = side.unlike(side.eyes, loud, quiet, letter) != []
        if index == len(thing) - 1:
            return None if parted else ("same",)
        if parted:
            return ("parted", index)
        knows = sorted(set(knows) | set(side.unlike(side.thirds, loud, quiet, letter)))
        mine, yours = loud.due(letter), quiet.due(letter)
        for task, call in ((mine, one), (yours, other)):
            if (call is None) != (task is None) or (call is not None and repr(call) not in map(repr, calls)):
                return ("act", index)
        if doors is None and yours in side.ones and other != ("pass",):
            return ("act", index)
        if mine is not None and mine not in side.ones and mine not in knows and one != other:
            return ("act", index)
        if doors is not None and side.spoken(loud, letter, one) != side.spoken(quiet, letter, other):
            return ("spoken", index)
        loud, quiet = loud.tick(letter, one)[1], quiet.tick(letter, other)[1]
    return None


class PlainProgram:
    """A program that a task goes through, as [29] tells it."""

    def __init__(self, program):
        self.program, self.place = program, 0

    def turn(self, answer):
        """The call of a turn in which this answer is seen."""
        gone = 0
        while gone < 24 and self.place < len(self.program):
            word, *rest = self.program[self.place]
            if word == "call":
                self.place += 1
                return rest[0]
            gone += 1
            if word == "go":
                self.place = rest[0]
            else:
                self.place = rest[1] if rest[0] == answer else self.place + 1
        return ("pass",)


def plain_ran(moment, programs, letters, ticks):
    """As [29] tells `ran`."""
    programs, rest, seen = [PlainProgram(program) for program in programs], list(letters), []
    for _ in range(ticks):
        letter = rest.pop(0) if len(letters_of(moment)) == 3 and rest else None
        task, call = moment.due(letter), None
        if task is not None:
            answer = moment.tick(letter, ("pass",))[0][1]
            call = programs[task].turn(answer)
        sight, moment = moment.tick(letter, call)
        seen.append(sight)
    return seen, moment


def some_program(rng, calls, own=()):
    """A program of a random source; its calls are mostly from `own`."""
    count = rng.randint(1, 12)
    program = []
    for _ in range(count):
        kind = rng.choice(["call", "call", "if", "if", "go"])
        if kind == "call":
            program.append(("call", rng.choice(own if own and rng.random() < 0.8 else calls)))
        elif kind == "if":
            program.append(("if", rng.choice([None, "yes", "yes", "no", "empty", "0", "1"]), rng.randint(0, count)))
        else:
            program.append(("go", rng.randint(0, count)))
    return program


def some_programs(rng, parts):
    """A program for each task, mostly of calls that its rights at first are for."""
    calls, programs = all_calls(parts), []
    for row in parts["rights"]:
        words = {(right[0], *right[1:]) for right in row} | {("wait", at) for word, at in row if word == "take"}
        own = [call for call in calls if call[:2] in words or (call[0] == "seek" and ("seek", 0) in row)]
        programs.append(some_program(rng, calls, [*own, *own, ("pass",), ("sleep", 1), ("get",)]))
    return programs


def some_letters(rng, many):
    return [rng.choice([None, 0, 1]) for _ in range(many)]
