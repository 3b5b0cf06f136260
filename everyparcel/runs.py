"""Courses, and the runs that they fix (points 43 to 47, 49, 50 and 54)."""

from everyparcel.errors import Invalid, TooMany
from everyparcel.scenes import played
from everyparcel.standings import MOST, first_standing, position, steps
from everyparcel.stepping import walks


class Plan:
    """The choices of a course."""

    def __init__(self, course):
        late, lost = course
        self._extras = dict(late)
        self._lost = {pair: True for pair in lost}

    def lands_now(self, trip, tick):
        """Whether the trip lands at the tick, where it may still be late."""
        return tick == trip.lands + self._extras.get(trip.name, 0)

    def is_loaded(self, trip, unit):
        """Whether the unit to which the trip comes is loaded, where it can be mislaid."""
        return (trip.name, unit) not in self._lost


def _is_late(world, late):
    """Whether each trip is one of the world and named once, with an extra that it can have."""
    trips = {trip.name: trip for trip in world.network.trips}
    if len(set([name for name, extra in late])) < len(late):
        return False
    return all([name in trips and 0 <= extra <= trips[name].late for name, extra in late])


def _in_one_form(world, late, lost):
    """The course of all pairs that a run has made, with the trips in network order."""
    extras = dict(late)
    late = [(trip.name, extras[trip.name]) for trip in world.network.trips if trip.name in extras]
    return (tuple(late), tuple(lost))


def course_of(world, walk):
    """The course that the steps make, one for each tick of the world."""
    late = [pair for step in walk for pair in step.late]
    return _in_one_form(world, late, [pair for step in walk for pair in step.lost])


class Run:
    """What befalls in a world by one course."""

    def __init__(self, world, course):
        if not _is_late(world, course[0]):
            raise Invalid("course")
        self.events = []
        self._world = world
        self._standings = [first_standing(world)]
        late = []
        lost = []
        plan = Plan(course)
        for tick in world.ticks:
            scene = played(world, self._standings[-1], tick, plan)
            self.events.extend(scene.events)
            self._standings.append(scene.standing())
            late.extend(scene.late)
            lost.extend(scene.lost)
        # The run makes only pairs of the course, each of them once and no more than there are slips. So it makes fewer
        # if one stands there twice, is one too many, or tells of a trip that does not come to its unit.
        if len(lost) < len(course[1]):
            raise Invalid("course")
        self.course = _in_one_form(world, late, lost)
        self._ends = {unit: tick for tick, kind, unit, where in self.events if kind == "out"}

    @property
    def world(self):
        """The world of the run."""
        return self._world

    def standing(self, tick):
        """The standing after the tick."""
        return self._standings[self._world.layer_of(tick)]

    def position(self, unit, tick):
        """The position of the unit after the tick."""
        return position(self._world, self.standing(tick), unit)

    def delivered(self, ticket):
        """The tick at which the parcel was delivered, or None."""
        return self._ends.get(self._world.parcel(ticket).ticket)


def run(world, course=((), ())):
    """The run of the course."""
    return Run(world, course)


def courses(world):
    """All courses in their one form, in the order of their choices."""
    for walk in walks(world):
        yield course_of(world, walk)


def _counts_after(world, counts, tick, most):
    """In how many ways each standing after the tick is reached, by those before it."""
    found = {}
    for standing, count in counts.items():
        for _, after in steps(world, standing, tick):
            found[after] = found.get(after, 0) + count
            if len(found) > most:
                raise TooMany(most, tick)
    return found


def count_courses(world, *, most=MOST):
    """How many courses there are."""
    counts = {first_standing(world): 1}
    for tick in world.ticks:
        counts = _counts_after(world, counts, tick, most)
    return sum(list(counts.values()))


def events_table(events):
    """One line for each event."""
    return "".join([f"{tick:>7} {kind:<8} {unit:>12} {where}\n" for tick, kind, unit, where in events])
