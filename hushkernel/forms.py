"""What rights, calls and the like look like: a word, and items of told kinds."""

from hushkernel.checks import is_between, is_index

RIGHT_FORMS = {
    "read": ("page",),
    "write": ("page",),
    "send": ("port",),
    "take": ("port",),
    "lock": ("lock",),
    "hand": ("task",),
    "strip": ("task",),
    "seek": ("disk",),
}

CALL_FORMS = {
    "read": ("page",),
    "write": ("page", "value"),
    "send": ("port", "value"),
    "take": ("port",),
    "wait": ("port",),
    "lock": ("lock",),
    "free": ("lock",),
    "hand": ("task", "right"),
    "strip": ("task", "right"),
    "sleep": ("ticks",),
    "seek": ("place",),
    "get": (),
    "give": (),
    "pass": (),
}

PASS = ("pass",)


def counted(tasks, pages, ports, locks, disk):
    """How many things there are of each kind, in a build of so many tasks, pages and so on."""
    return {
        "task": tasks,
        "page": pages,
        "port": ports,
        "lock": locks,
        "value": 2,
        "place": disk,
        "disk": min(disk, 1),
    }


def word_of(thing):
    """The string with which a tuple begins, or an empty one."""
    if isinstance(thing, tuple) and len(thing) > 0 and isinstance(thing[0], str):
        return thing[0]
    return ""


def is_formed(counts, kinds, thing):
    """Whether a thing that begins with a word goes on with items of just these kinds (None: no such word)."""
    if kinds is None or len(thing) != len(kinds) + 1:
        return False
    return all([is_of_kind(counts, kind, item) for kind, item in zip(kinds, thing[1:])])


def is_of_kind(counts, kind, item):
    if kind == "right":
        return is_right(counts, item)
    if kind == "ticks":
        return is_between(item, 1, 2)
    return is_index(item, counts[kind])


def all_formed(counts, word, kinds):
    """All things that begin with a word and go on with items of these kinds."""
    found = [(word,)]
    for kind in kinds:
        found = [thing + (item,) for thing in found for item in all_of_kind(counts, kind)]
    return found


def all_of_kind(counts, kind):
    if kind == "right":
        return all_rights(counts)
    if kind == "ticks":
        return [1, 2]
    return list(range(counts[kind]))


def all_rights(counts):
    """All rights of a build, ascending."""
    return sorted([right for word, kinds in RIGHT_FORMS.items() for right in all_formed(counts, word, kinds)])


def all_calls(counts):
    """All calls of a build."""
    return [call for word, kinds in CALL_FORMS.items() for call in all_formed(counts, word, kinds)]


def is_right(counts, thing):
    return is_formed(counts, RIGHT_FORMS.get(word_of(thing)), thing)


def is_call(counts, thing):
    return is_formed(counts, CALL_FORMS.get(word_of(thing)), thing)
