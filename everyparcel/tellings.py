"""Where each unit can be, and what can and must have happened (points 62, 67 and 68)."""

from everyparcel.books import in_order
from everyparcel.paths import some_paths
from everyparcel.standings import MOST
from everyparcel.stepping import Stepper


def places(world, book, unit, tick, *, most=MOST):
    """The ascending list of the positions that the unit has after the tick in the courses that fit the book."""
    world.number(unit)
    return some_paths(world, Stepper(world), book, most).positions(unit, tick)


class Telling:
    """All that is told about one book."""

    def __init__(self, world, book, *, most=MOST):
        self._paths = some_paths(world, Stepper(world), book, most)
        # A property works out nothing: the number is kept from the beginning.
        self._count = self._paths.how_many()

    @property
    def course_count(self):
        """The number of the courses that fit the book."""
        return self._count

    def places(self, unit, tick):
        """The ascending list of the positions that the unit can have after the tick."""
        return self._paths.positions(unit, tick)

    def possible(self):
        """All events that some fitting course has."""
        found = []
        for ways in self._paths.ways:
            found.extend([event for steps in ways.values() for step in steps for event in step.events])
        return in_order(found)

    def sure(self):
        """The events that every fitting course has."""
        found = []
        for ways in self._paths.ways:
            # Each course takes one of the steps at the tick, and each of the steps is one of a course.
            lists = [step.events for steps in ways.values() for step in steps]
            found.extend(in_all(lists))
        return in_order(found)

    def known(self, unit, tick):
        """The position of the unit after the tick, if only one is possible, and None otherwise."""
        told = self.places(unit, tick)
        return told[0] if len(told) == 1 else None


def in_all(lists):
    """What stands in each of the lists, of which there is one at least, in the order of the first one."""
    found = lists[0]
    for one in lists[1:]:
        found = [thing for thing in found if thing in one]
    return list(found)
