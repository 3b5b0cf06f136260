"""The world: what is fixed before anything happens (point 42)."""

from everyparcel.agenda import Agenda
from everyparcel.errors import Invalid, Unknown
from everyparcel.routes import every_landing
from everyparcel.timetable import DAY


class World:
    """A network, a sorting and parcels."""

    def __init__(self, network, sorting, parcels, *, tariffs=None, slips=0, wait=None):
        self.network = network
        self.sorting = sorting
        self.parcels = tuple(sorted(parcels, key=lambda parcel: parcel.ticket))
        self.tariffs = {} if tariffs is None else dict(tariffs)
        self.slips = slips
        self.wait = wait
        self.tickets = [parcel.ticket for parcel in self.parcels]
        self.units = self.tickets + [closing.name for closing in network.closings]
        self._parcels = {parcel.ticket: parcel for parcel in self.parcels}
        self._numbers = {unit: number for number, unit in enumerate(self.units)}
        sites = [site.name for site in network.sites]
        if len(self._parcels) < len(self.parcels) or not all([parcel.start in sites for parcel in self.parcels]):
            raise Invalid("world")
        if slips < 0 or (wait is not None and wait < 0):
            raise Invalid("world")
        self.agenda = Agenda()
        self._fill_agenda()
        self.ticks = sorted(set(self.agenda.all_ticks() + every_landing(network.trips)))
        self.until = self.ticks[-1] if self.ticks else 0

    def _fill_agenda(self):
        """Enters all that has a tick of its own: a landing has none, since its trip may be late."""
        for site in self.network.sites:
            self.agenda.enter("found", site.searches, site)
            self.agenda.enter("cleared", site.sittings, site)
            self.agenda.enter("out", site.rounds, site)
        for closing in self.network.closings:
            self.agenda.enter("packed", [closing.tick], closing)
        for trip in self.network.trips:
            self.agenda.enter("loaded", [trip.leaves], trip)
        for parcel in self.parcels:
            self.agenda.enter("taken", [parcel.taken], parcel)
            claim = self.claim_tick(parcel.ticket)
            self.agenda.enter("claimed", [] if claim is None else [claim], parcel)

    def _with(self, network, sorting, parcels, slips):
        return World(network, sorting, parcels, tariffs=self.tariffs, slips=slips, wait=self.wait)

    def parcel(self, ticket):
        """The parcel of that ticket."""
        if ticket not in self._parcels:
            raise Unknown(ticket)
        return self._parcels[ticket]

    def number(self, unit):
        """Where the unit stands in the list of all units, counted from 0."""
        if unit not in self._numbers:
            raise Unknown(unit)
        return self._numbers[unit]

    def layer_of(self, tick):
        """How many of the world's ticks are at most the tick: the number of the layer to which it belongs."""
        low, high = 0, len(self.ticks)
        while low < high:
            middle = (low + high) // 2
            if self.ticks[middle] <= tick:
                low = middle + 1
            else:
                high = middle
        return low

    def claim_tick(self, ticket):
        """The tick at which the parcel is claimed if it is not out, or None."""
        due = self.parcel(ticket).due
        if due is None or self.wait is None:
            return None
        return due + DAY * self.wait

    def first(self, count):
        """The world with only the lowest tickets."""
        return self._with(self.network, self.sorting, self.parcels[:count], self.slips)

    def only(self, ticket):
        """The world with only that parcel."""
        return self._with(self.network, self.sorting, [self.parcel(ticket)], self.slips)

    def added(self, parcel):
        """The world with one more parcel."""
        return self._with(self.network, self.sorting, list(self.parcels) + [parcel], self.slips)

    def with_slips(self, slips):
        """The world with that many slips."""
        return self._with(self.network, self.sorting, self.parcels, slips)

    def with_sorting(self, sorting):
        """The world with that sorting."""
        return self._with(self.network, sorting, self.parcels, self.slips)

    def with_network(self, network):
        """The world with that network."""
        return self._with(network, self.sorting, self.parcels, self.slips)
