"""Two kernels of a build side by side: where their calls lead to, and by which letters the eyes are harmed.

A TRIO is a triple as it is worked with: the numbers of two shapes, in the place of moments, and the tasks that know.
With doors, the first and the second kernel stand in the places of the loud and the quiet one.
"""

from hushkernel.forms import PASS
from hushkernel.moments import Moment, veiled_shape
from hushkernel.ticks import finished, letters_now, opened
from hushkernel.worth import calls_tried, worth_trying


class Shapes:
    """The shapes that are met. Each has a number, since numbers are compared faster than shapes."""

    def __init__(self, rules, roles):
        self.rules = rules
        self.roles = roles
        self.met = []
        self.numbers = {}
        self.openings = {}

    def number_of(self, shape):
        number = self.numbers.get(shape)
        if number is None:
            number = len(self.met)
            self.numbers[shape] = number
            self.met.append(shape)
        return number

    def opening(self, number, letter):
        """The next tick of a shape with a letter; it is worked out once, as many trios share a shape."""
        key = (number, letter)
        found = self.openings.get(key)
        if found is None:
            found = Opening(self, opened(self.rules, self.met[number], letter))
            self.openings[key] = found
        return found


class Opening:
    """A tick of one kernel, up to the call, and the shapes behind it."""

    def __init__(self, shapes, kernel):
        self.shapes = shapes
        self.kernel = kernel
        self.sight = kernel.seen()
        self.reached = {}
        self.ways = {}

    def behind(self, call, hidden):
        """The number of the shape behind a call, without the answers of the hidden tasks."""
        key = (call, hidden)
        number = self.reached.get(key)
        if number is None:
            number = self.shapes.number_of(veiled_shape(finished(self.kernel, call), hidden))
            self.reached[key] = number
        return number

    def ways_behind(self, hidden):
        """A tuple (call, number, what is spoken) for each call worth trying; None is the only call without a turn.

        Of the calls that speak alike and lead to one shape the first is enough: no other one puts in a trio first.
        """
        if hidden not in self.ways:
            calls = {}
            for call in calls_tried(self.kernel):
                spoken = self.shapes.roles.spoken(self.kernel, call)
                calls.setdefault((self.behind(call, hidden), spoken), call)
            self.ways[hidden] = [(call, number, spoken) for (number, spoken), call in calls.items()]
        return self.ways[hidden]


class Twins:
    """The loud and the quiet kernel, for one choice of ones, eyes and doors."""

    def __init__(self, build, roles):
        self.source = build
        self.roles = roles
        self.shapes = Shapes(build.rules, roles)

    def trio_of(self, loud, quiet, knowing):
        return (self.shapes.number_of(loud.shape()), self.shapes.number_of(quiet.shape()), knowing)

    def first_trio(self, moment):
        veiled = moment.veiled(list(self.roles.ones))
        return self.trio_of(veiled, veiled, ())

    def triple_of(self, trio):
        loud, quiet, knowing = trio
        met = self.shapes.met
        return (Moment(self.source, met[loud]), Moment(self.source, met[quiet]), knowing)

    def letters(self, trio):
        return letters_now(self.shapes.rules, self.shapes.met[trio[0]])

    def both(self, trio, letter):
        """The tick of the loud kernel and the one of the quiet kernel."""
        return (self.shapes.opening(trio[0], letter), self.shapes.opening(trio[1], letter))

    def harms(self, trio):
        """The list of the letters by which a trio is harmed."""
        found = []
        for letter in self.letters(trio):
            loud, quiet = self.both(trio, letter)
            if self.roles.see_unlike(loud.sight, quiet.sight):
                found.append(letter)
        return found

    def kind(self, trio, letter):
        """How a trio is harmed by a letter: by another answer at the same turn, or by time."""
        loud, quiet = self.both(trio, letter)
        if loud.sight is None or quiet.sight is None:
            return "time"
        return "answer" if loud.sight[0] == quiet.sight[0] else "time"

    def steps(self, trio):
        """A tuple ((letter, loud call, quiet call), trio) for each one behind a trio that is not harmed, in order."""
        found = []
        for letter in self.letters(trio):
            found.extend(self.steps_with(trio, letter))
        return found

    def steps_with(self, trio, letter):
        loud, quiet = self.both(trio, letter)
        knowing = self.roles.knowing_now(trio[2], loud.sight, quiet.sight)
        hidden = self.roles.ones + knowing
        if self.roles.is_bound(knowing, loud.sight, quiet.sight):
            return [
                ((letter, call, call), (loud.behind(call, hidden), quiet.behind(call, hidden), knowing))
                for call in calls_of_both(loud.kernel, quiet.kernel)
            ]
        quiet_ways = self.quiet_ways(quiet, hidden)
        return [
            ((letter, loud_call, quiet_call), (loud_number, quiet_number, knowing))
            for loud_call, loud_number, told in loud.ways_behind(hidden)
            for quiet_call, quiet_number, heard in quiet_ways
            if told == heard
        ]

    def quiet_ways(self, quiet, hidden):
        """As `ways_behind`, but without doors the ones only pass in the quiet kernel."""
        if quiet.kernel.turn in self.roles.ones and self.roles.doors == ():
            return [(PASS, quiet.behind(PASS, hidden), None)]
        return quiet.ways_behind(hidden)


def calls_of_both(loud, quiet):
    """The calls worth trying in the loud kernel, then those of the quiet one that are not among them."""
    calls = worth_trying(loud)
    return calls + [call for call in worth_trying(quiet) if call not in calls]
