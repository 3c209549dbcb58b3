"""How many unlike things the ones can make the others see."""

from hushkernel.errors import TooMany
from hushkernel.hushes import check_most
from hushkernel.instructions import check_programs, gone_on
from hushkernel.moments import veiled_shape
from hushkernel.programs import check_letters, check_ticks, letters_along
from hushkernel.roles import roles_of, sight_of
from hushkernel.twins import Shapes


def sights(moment, ones, programs, letters, ticks, *, most=500):
    """For each number of ticks how many lists of what the others see can come."""
    build = moment.build()
    roles = roles_of(build, ones, None)
    check_programs(build, programs, roles.ones)
    check_letters(letters)
    check_ticks(ticks)
    check_most(most)
    crowd = Crowd(moment, roles, programs)
    found = [1]
    for letter in letters_along(moment, letters, ticks):
        crowd.tick(letter)
        if len(crowd.spots) > most:
            raise TooMany(most)
        found.append(len(crowd.places))
    return found


class Crowd:
    """All that can be so after some ticks, whatever the ones have done.

    What the others have seen so far is a number, the index of a list in `places`: each such list settles at which
    places the programs of the others stand. A spot is such a number, and that of a shape that can go with it.
    """

    def __init__(self, moment, roles, programs):
        self.roles = roles
        self.programs = programs
        self.shapes = Shapes(moment.build().rules, roles)
        self.places = [[0] * len(programs)]
        self.spots = {(0, self.shapes.number_of(veiled_shape(moment.shape(), roles.ones))): True}

    def tick(self, letter):
        seen = Seen(self.places, self.programs)
        spots = {}
        for told, number in self.spots:
            opening = self.shapes.opening(number, letter)
            sight = sight_of(self.roles.eyes, opening.sight)
            now, call = seen.behind(told, sight)
            if sight is not None:
                spots[(now, opening.behind(call, self.roles.ones))] = True
                continue
            for way in opening.ways_behind(self.roles.ones):
                spots[(now, way[1])] = True
        self.places = seen.places
        self.spots = spots


class Seen:
    """What the others see in one tick, behind all that they can have seen before."""

    def __init__(self, before, programs):
        self.before = before
        self.programs = programs
        self.places = []
        self.met = {}

    def behind(self, told, sight):
        """The number of what they have seen now, and the call of the one of them that has its turn, or None."""
        key = (told, sight)
        found = self.met.get(key)
        if found is None:
            places = list(self.before[told])
            call = None
            if sight is not None:
                task, answer = sight
                call, places[task] = gone_on(self.programs[task], places[task], answer)
            found = (len(self.places), call)
            self.places.append(places)
            self.met[key] = found
        return found
