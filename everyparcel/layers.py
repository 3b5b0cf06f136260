"""What can be and what cannot, with a course or a closed table for it (points 61 and 63 to 66)."""

from everyparcel.books import Book
from everyparcel.errors import Invalid
from everyparcel.paths import Paths
from everyparcel.runs import Run
from everyparcel.sieves import Sieve, check_wish, is_met
from everyparcel.standings import MOST
from everyparcel.stepping import Stepper
from everyparcel.truths import fits


def _paths(world, book, wish, most):
    return Paths(world, Sieve(world, Stepper(world), book, wish), most)


def meets(world, run, wish):
    """Whether the run meets the wish."""
    check_wish(world, wish)
    return wish is None or is_met(wish, run.position(wish[1], wish[2]))


def layers(world, book, *, wish=None, most=MOST):
    """The standings before the first tick and after each tick to which fitting steps lead."""
    return _paths(world, book, wish, most).layers


def first_course(world, book, *, wish=None, most=MOST):
    """The first course that fits the book and meets the wish, or None."""
    return _paths(world, book, wish, most).first_course()


def refutes(world, book, wish, table):
    """Whether the table is closed, so that no course fits the book and meets the wish."""
    sieve = Sieve(world, Stepper(world), book, wish)
    if len(table) != len(world.ticks) + 1 or len(table[-1]) > 0:
        return False
    rows = [{standing: True for standing in row} for row in table]
    if not all([standing in rows[0] for standing in sieve.beginning()]):
        return False
    for number in range(1, len(rows)):
        for standing in rows[number - 1]:
            if not all([step.after in rows[number] for step in sieve.fitting_steps(number, standing)]):
                return False
    return True


def answer(world, book, wish, *, most=MOST):
    """A course that fits the book and meets the wish, or a closed table that shows that there is none."""
    return answered(world, Sieve(world, Stepper(world), book, wish), most)


def answered(world, sieve, most):
    """The answer about the courses that the sieve lets through."""
    paths = Paths(world, sieve, most)
    if paths.exist():
        return ("yes", paths.first_course())
    return ("no", paths.layers)


def shows(world, book, wish, course):
    """Whether the course is one of the world, fits the book and meets the wish."""
    # The errors of the book and of the wish come first, whatever the course is.
    Sieve(world, Stepper(world), book, wish)
    try:
        told = Run(world, course)
    except Invalid:
        return False
    return fits(world, told, book) and meets(world, told, wish)


def reasons(world, book, wish, *, most=MOST):
    """The records that make the wish impossible, each of which is needed, or None if they do not."""
    stepper = Stepper(world)
    needed = book.valid
    if _is_possible(world, stepper, needed, wish, most):
        return None
    for record in book.valid:
        fewer = [one for one in needed if one != record]
        if not _is_possible(world, stepper, fewer, wish, most):
            needed = fewer
    return needed


def _is_possible(world, stepper, records, wish, most):
    """Whether some course meets the wish and has just these records true."""
    return Paths(world, Sieve(world, stepper, Book({}, records), wish), most).exist()
