"""The courses that fit a book and meet a wish, layer by layer (point 63)."""

from everyparcel.books import Book
from everyparcel.errors import Contradiction, TooMany
from everyparcel.runs import course_of
from everyparcel.sieves import Sieve
from everyparcel.standings import position


def _steps_from(sieve, number, layer, most, tick):
    """The fitting steps at the tick by the standings of the layer before it."""
    found = {}
    after = {}
    for standing in layer:
        found[standing] = sieve.fitting_steps(number, standing)
        for step in found[standing]:
            after[step.after] = True
        if len(after) > most:
            raise TooMany(most, tick)
    return found


def _going_on(steps_by_standing, goals):
    """The steps that lead to one of the goals, by the standings from which there are some."""
    found = {}
    for standing, steps in steps_by_standing.items():
        kept = [step for step in steps if step.after in goals]
        if kept:
            found[standing] = kept
    return found


class Paths:
    """All courses that a sieve lets through.

    `layers` has the standings of each layer, `alive` just those of them through which a course goes, and `ways` has
    for each tick the steps of the courses, by the standings before them.
    """

    def __init__(self, world, sieve, most):
        self._world = world
        self.layers = [sieve.beginning()]
        self.ways = []
        for number, tick in enumerate(world.ticks, start=1):
            steps = _steps_from(sieve, number, self.layers[-1], most, tick)
            self.ways.append(steps)
            self.layers.append(sorted(set([step.after for some in steps.values() for step in some])))
        self.alive = [self.layers[-1]]
        # From behind: only what leads to the last layer belongs to a course.
        for number in range(len(world.ticks) - 1, -1, -1):
            goals = {standing: True for standing in self.alive[0]}
            self.ways[number] = _going_on(self.ways[number], goals)
            self.alive.insert(0, list(self.ways[number]))

    def exist(self):
        """Whether there is a course."""
        return self.layers[-1] != []

    def first_course(self):
        """The first course, or None if there is none."""
        if not self.exist():
            return None
        standing = self.alive[0][0]
        steps = []
        for ways in self.ways:
            steps.append(ways[standing][0])
            standing = steps[-1].after
        return course_of(self._world, steps)

    def how_many(self):
        """The number of the courses."""
        counts = {standing: 1 for standing in self.alive[-1]}
        for ways in self.ways[::-1]:
            counts = {standing: sum([counts[step.after] for step in ways[standing]]) for standing in ways}
        return sum(list(counts.values()))

    def positions(self, unit, tick):
        """The ascending list of the positions that the unit has after the tick in the courses."""
        self._world.number(unit)
        standings = self.alive[self._world.layer_of(tick)]
        return sorted(set([position(self._world, standing, unit) for standing in standings]))


def some_paths(world, stepper, book, most):
    """The courses that fit the book, of which there is one at least; all courses, if the book is None."""
    paths = Paths(world, Sieve(world, stepper, Book() if book is None else book, None), most)
    if not paths.exist():
        raise Contradiction()
    return paths


def place_changes(world, before, after):
    """The tuples (ticket, tick, before, after) where the places of a parcel differ."""
    numbers = [number for number in range(1, len(world.ticks) + 1) if before.alive[number] != after.alive[number]]
    found = []
    for ticket in world.tickets:
        for tick in [world.ticks[number - 1] for number in numbers]:
            was, now = before.positions(ticket, tick), after.positions(ticket, tick)
            if was != now:
                found.append((ticket, tick, was, now))
    return found
