"""The desk at which everything meets (points 88 to 92)."""

from everyparcel.books import Book
from everyparcel.charges import Prices
from everyparcel.errors import Invalid, Late, Refused
from everyparcel.ledgers import Clerk, balance, balances, sure_postings
from everyparcel.parcels import Parcel
from everyparcel.paths import place_changes, some_paths
from everyparcel.promises import promised, sure_day
from everyparcel.quotes import quote
from everyparcel.ranges import ends
from everyparcel.settling import house_postings, payments
from everyparcel.standings import MOST
from everyparcel.stepping import Stepper
from everyparcel.timetable import DAY
from everyparcel.worlds import World


def _journal_of(before, after):
    """The entries that lead from the postings that were booked to those that are booked now, both in order."""
    was = {posting: True for posting in before}
    now = {posting: True for posting in after}
    voids = [("void", posting) for posting in before if posting not in now]
    return voids + [("post", posting) for posting in after if posting not in was]


class State:
    """All that a house has at one moment: its world, its book, its limit, and what follows from them.

    A state is never changed. A house that changes gets a new one, so a trial has only to give it back the old one.
    """

    def __init__(self, stage, stepper, clerk, notes, limit, entries, posted):
        self.stage = stage
        self.stepper = stepper
        self.clerk = clerk
        self.notes = notes
        self.limit = limit
        self.paths = some_paths(stage, stepper, notes, limit)
        self.total = self.paths.how_many()
        self.posted = sure_postings(self.paths, clerk)
        self.entries = entries + _journal_of(posted, self.posted)


class Trial:
    """Gives a house back, at the end of a with statement, what it had at its beginning."""

    def __init__(self, house):
        self._house = house
        self._state = None

    def __enter__(self):
        self._state = self._house.state
        return self._house

    def __exit__(self, kind, value, trace):
        house = self._house
        house.state = self._state


def _check_late(book, taken):
    """Raises Late unless the tick comes behind all that is known."""
    ticks = list(book.heard.values()) + [record[0] for record in book.valid]
    if ticks and taken <= max(ticks):
        raise Late(max(ticks))


class House:
    """Accepts parcels, learns what befalls them, and tells where they can be and who owes whom."""

    def __init__(self, network, sorting, *, tariffs=None, slips=0, wait=None, prices=None, most=MOST):
        world = World(network, sorting, [], tariffs=tariffs, slips=slips, wait=wait)
        self._prices = Prices.usual() if prices is None else prices
        # For the trials; nobody else reads or assigns it.
        self.state = State(world, Stepper(world), Clerk(world, self._prices), Book(), most, [], [])

    def __len__(self):
        return len(self.state.stage.tickets)

    def __contains__(self, ticket):
        return ticket in self.state.stage.tickets

    @property
    def world(self):
        """The world of the house with all parcels that it has accepted."""
        return self.state.stage

    @property
    def book(self):
        """A copy of the book of the house."""
        return self.state.notes + Book()

    @property
    def prices(self):
        """The prices of the house."""
        return self._prices

    @property
    def course_count(self):
        """The number of the courses that fit the book."""
        return self.state.total

    @property
    def journal(self):
        """All that was posted and voided so far."""
        return list(self.state.entries)

    @property
    def most(self):
        """The limit of the layers."""
        return self.state.limit

    @most.setter
    def most(self, value):
        self.change_most(value)

    def change_most(self, value):
        """Sets the limit of the layers, if they keep it."""
        if value < 1:
            raise Invalid("most")
        self.state = self._state_with(self.state.notes, value)

    def accept(self, address, start, taken, *, weight=1, days=None, sender="sender", receiver="receiver", goods=()):
        """Accepts a parcel, and returns its ticket."""
        before = self.state
        ticket = len(before.stage.tickets) + 1
        parcel = Parcel(ticket, address, start, taken, weight=weight, days=days, sender=sender, receiver=receiver,
                        goods=goods)
        world = before.stage.added(parcel)
        stepper = Stepper(world)
        _check_late(before.notes, taken)
        if days is not None:
            self._check_promise(world, stepper, parcel)
        clerk = Clerk(world, self._prices)
        self.state = State(world, stepper, clerk, before.notes, before.limit, before.entries, before.posted)
        return ticket

    def hear(self, name, tick):
        """Hears the house of that name up to the tick, and tells what has changed."""
        return self._learn(self.state.notes + Book({name: tick}))

    def note(self, record):
        """Adds the record to the book, and tells what has changed."""
        return self._learn(self.state.notes + Book({}, [record]))

    def strike(self, record):
        """Strikes the record in the book, and tells what has changed."""
        return self._learn(self.state.notes + Book({}, [], [record]))

    def take(self, *books):
        """Adds all that the other books hold, and tells what has changed."""
        book = self.book
        book.take(*books)
        return self._learn(book)

    def places(self, unit, tick):
        """The ascending list of the positions that the unit can have after the tick."""
        return self.state.paths.positions(unit, tick)

    def day_sure(self, ticket):
        """The least day by whose end the parcel is surely delivered, or None."""
        self.state.stage.parcel(ticket)
        return sure_day(self.state.stage, self.state.paths, ticket)

    def between(self, account):
        """The least and the greatest balance of the account."""
        return ends(self.state.paths, self.state.clerk, account)

    def balance(self, account):
        """The balance of the account in the postings that are booked."""
        return balance(self.state.posted, account)

    def settle(self):
        """The payments that settle what the houses owe each other by the postings that are booked."""
        found = balances(house_postings(self.state.posted))
        names = [site.house for site in self.state.stage.network.sites]
        return payments({name: found.get(("house", name), 0) for name in names})

    def trial(self):
        """A trial of the house, for a with statement."""
        return Trial(self)

    def _state_with(self, book, limit):
        """The state with that book and that limit."""
        before = self.state
        return State(before.stage, before.stepper, before.clerk, book, limit, before.entries, before.posted)

    def _learn(self, book):
        """Goes on with the new book, unless it raises an error, and tells what has changed."""
        before = self.state
        after = self._state_with(book, before.limit)
        changes = place_changes(before.stage, before.paths, after.paths)
        self.state = after
        return changes

    def _check_promise(self, world, stepper, parcel):
        """Raises Refused unless the promise of the parcel is given in the world that has it already."""
        limit = self.state.limit
        word, paper = promised(world, stepper, parcel.ticket, parcel.due // DAY, None, limit)
        if word == "broken":
            raise Refused(quote(self.state.stage, parcel, most=limit), paper)


def tried(house, deed):
    """Calls the deed with the house inside a trial."""
    with house.trial() as desk:
        return deed(desk)
