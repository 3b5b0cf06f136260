"""Following a book that grows (point 69)."""

from everyparcel.books import Book
from everyparcel.paths import Paths, place_changes
from everyparcel.sieves import Sieve
from everyparcel.standings import MOST
from everyparcel.stepping import Stepper


class Watch:
    """A book of a world, and what changes when more becomes known."""

    def __init__(self, world, book, *, most=MOST):
        self._world = world
        self._stepper = Stepper(world)
        self._limit = most
        self._book = book + Book()
        self._paths = self._paths_for(self._book)

    @property
    def book(self):
        """A copy of the book as it is now."""
        return self._book + Book()

    def note(self, record):
        """Adds the record to the book, and tells what has changed."""
        return self._follow(self._book + Book({}, [record]))

    def strike(self, record):
        """Strikes the record in the book, and tells what has changed."""
        return self._follow(self._book + Book({}, [], [record]))

    def hear(self, house, tick):
        """Hears the house up to the tick, and tells what has changed."""
        return self._follow(self._book + Book({house: tick}))

    def take(self, *books):
        """Adds all that the other books hold, and tells what has changed."""
        book = self.book
        book.take(*books)
        return self._follow(book)

    def places(self, unit, tick):
        """The ascending list of the positions that the unit can have after the tick."""
        return self._paths.positions(unit, tick)

    def _paths_for(self, book):
        return Paths(self._world, Sieve(self._world, self._stepper, book, None), self._limit)

    def _follow(self, book):
        """Goes on with the new book, unless it raises an error."""
        paths = self._paths_for(book)
        changes = place_changes(self._world, self._paths, paths)
        self._book = book
        self._paths = paths
        return changes
