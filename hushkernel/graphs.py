"""All moments that can ever come, and what is so at some of them."""

from hushkernel.checks import is_between
from hushkernel.errors import NoMost, NoWatch, TooMany
from hushkernel.forms import is_formed, word_of
from hushkernel.moments import Moment
from hushkernel.ticks import finished, letters_now, opened
from hushkernel.worth import calls_tried

WATCH_FORMS = {
    "page": ("page", "value"),
    "letters": ("port", "letters"),
    "holds": ("task", "lock"),
    "has": ("task", "right"),
    "frames": ("task", "frames"),
    "waits": ("task",),
    "stuck": (),
}


def graph(moment, *, most=500):
    """The list of all moments that can be come to, each with the acts that can be done at it."""
    if not is_between(most, 1, 3000):
        raise NoMost("it is not a bound from 1 to 3000")
    build = moment.build()
    shapes = [moment.shape()]
    places = {shapes[0]: 0}
    rows = []
    while len(rows) < len(shapes):
        behind = []
        tried = shapes_behind(build.rules, shapes[len(rows)])
        for outside, call, shape in tried:
            if shape not in places:
                if len(shapes) == most:
                    raise TooMany(most)
                places[shape] = len(shapes)
                shapes.append(shape)
            behind.append((outside, call, places[shape]))
        rows.append(behind)
    return [(Moment(build, shape), behind) for shape, behind in zip(shapes, rows)]


def shapes_behind(rules, shape):
    """A tuple (letter, call, shape) for each act that is tried at a shape, in their order."""
    found = []
    for outside in letters_now(rules, shape):
        kernel = opened(rules, shape, outside)
        for call in calls_tried(kernel):
            found.append((outside, call, finished(kernel, call)))
    return found


def watched(moment, watch):
    """Whether what is watched is so at a moment."""
    check_watch(moment.build(), watch)
    return is_so(moment, watch)


def check_watch(build, watch):
    counts = {**build.rules.counts, "letters": 3, "frames": 4}
    if not is_formed(counts, WATCH_FORMS.get(word_of(watch)), watch):
        raise NoWatch("it is not a watch of the build")


def is_so(moment, watch):
    word = watch[0]
    if word == "page":
        return moment.pages()[watch[1]] == watch[2]
    if word == "letters":
        return len(moment.ports()[watch[1]]) == watch[2]
    if word == "holds":
        return moment.locks()[watch[2]][0] == watch[1]
    if word == "has":
        return watch[2] in moment.rights(watch[1])
    if word == "frames":
        return moment.held(watch[1]) == watch[2]
    if word == "waits":
        return is_held_up(moment, watch[1])
    return all([is_held_up(moment, task) for task in range(moment.build().rules.task_count)])


def is_held_up(moment, task):
    """Whether a task waits or is locked."""
    return moment.status(task)[0] in ("waits", "locked")


def ever(moment, watch, *, most=500):
    """The shortest way to a moment at which it is so, or how many moments there are without any."""
    check_watch(moment.build(), watch)
    rows = graph(moment, most=most)
    for index, (met, _) in enumerate(rows):
        if is_so(met, watch):
            return ("acts", acts_to(rows, index))
    return ("never", len(rows))


def acts_to(rows, index):
    """The acts by which a moment of a graph was first met."""
    ways = first_ways(rows)
    acts = []
    while index > 0:
        index, outside, call = ways[index]
        acts.append((outside, call))
    return acts[::-1]


def first_ways(rows):
    """For each moment that acts lead to, the act by which it was first met, and where."""
    ways = {}
    for at, (_, behind) in enumerate(rows):
        for outside, call, index in behind:
            if index not in ways:
                ways[index] = (at, outside, call)
    return ways
