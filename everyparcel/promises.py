"""On which day a parcel is surely delivered (points 72 to 75 and 78)."""

from everyparcel.books import Book
from everyparcel.layers import answered
from everyparcel.paths import some_paths
from everyparcel.sieves import Sieve
from everyparcel.standings import MOST, position
from everyparcel.stepping import Stepper
from everyparcel.timetable import DAY


def _last_tick(day):
    return DAY * day + DAY - 1


def _paths_for(world, ticket, book, most):
    world.parcel(ticket)
    return some_paths(world, Stepper(world), book, most)


def _is_out(world, ticket, standing):
    return position(world, standing, ticket)[0] == "out"


def _never(world, paths, ticket):
    """Whether the parcel is not delivered in some course."""
    return not all([_is_out(world, ticket, standing) for standing in paths.alive[-1]])


def _ticks_out(world, paths, ticket):
    """The ascending ticks at which the parcel is delivered in some course."""
    found = []
    for tick, ways in zip(world.ticks, paths.ways):
        waiting = [standing for standing in ways if not _is_out(world, ticket, standing)]
        if any([_is_out(world, ticket, step.after) for standing in waiting for step in ways[standing]]):
            found.append(tick)
    return found


def delivery_ticks(world, ticket, *, book=None, most=MOST):
    """The ticks at which the parcel is delivered in some course, and whether it is not delivered in some course."""
    paths = _paths_for(world, ticket, book, most)
    return (_ticks_out(world, paths, ticket), _never(world, paths, ticket))


def is_given(world, ticket, day, *, book=None, most=MOST):
    """Whether every course delivers the parcel by the end of the day."""
    paths = _paths_for(world, ticket, book, most)
    standings = paths.alive[world.layer_of(_last_tick(day))]
    return all([_is_out(world, ticket, standing) for standing in standings])


def day_sure(world, ticket, *, book=None, most=MOST):
    """The least day by whose end every course delivers the parcel, or None."""
    return sure_day(world, _paths_for(world, ticket, book, most), ticket)


def sure_day(world, paths, ticket):
    """The least day by whose end each of the courses delivers the parcel, or None."""
    if _never(world, paths, ticket):
        return None
    return _ticks_out(world, paths, ticket)[-1] // DAY


def promise_answer(world, ticket, day, *, book=None, most=MOST):
    """A closed table that shows that the promise is given, or the first course that breaks it."""
    world.parcel(ticket)
    return promised(world, Stepper(world), ticket, day, book, most)


def promised(world, stepper, ticket, day, book, most):
    """The answer about a promise to a parcel that the world has."""
    known = Book() if book is None else book
    # The courses without the wish come first, since it is they that may be too many or none.
    some_paths(world, stepper, known, most)
    word, paper = answered(world, Sieve(world, stepper, known, ("late", ticket, _last_tick(day))), most)
    return ("broken" if word == "yes" else "given", paper)
