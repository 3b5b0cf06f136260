"""Sites, trips and closings, and the network that joins them (points 4 and 6 to 9)."""

from everyparcel.errors import Invalid, Unknown
from everyparcel.spelling import DIGITS, LETTERS, made_of, spells_address


def is_name(text):
    """Whether the string is a name: 1 to 12 lower-case letters and digits, the first one a letter."""
    return made_of(text, LETTERS + DIGITS, 12) and text[0] in LETTERS


def _are_names(texts):
    return all([is_name(text) for text in texts])


def _ascends(ticks):
    """Whether the ticks are strictly ascending and none of them is negative."""
    before = -1
    for tick in ticks:
        if tick <= before:
            return False
        before = tick
    return True


class Site:
    """A place where units lie (point 6)."""

    def __init__(self, name, house, land, code, *, rounds=(), sittings=(), searches=(), lag=None):
        self.name = name
        self.house = house
        self.land = land
        self.code = code
        self.rounds = tuple(rounds)
        self.sittings = tuple(sittings)
        self.searches = tuple(searches)
        self.lag = lag
        if not _are_names([name, house, land]) or not spells_address(code):
            raise Invalid("site")
        if not _ascends(self.rounds) or not _ascends(self.sittings) or not _ascends(self.searches):
            raise Invalid("site")
        if lag is not None and lag < 0:
            raise Invalid("site")


class Trip:
    """One ride from a site to another site (point 7)."""

    def __init__(self, name, start, goal, leaves, lands, *, late=0, room=9, toll=0):
        self.name = name
        self.start = start
        self.goal = goal
        self.leaves = leaves
        self.lands = lands
        self.late = late
        self.room = room
        self.toll = toll
        if not _are_names([name, start, goal]) or start == goal:
            raise Invalid("trip")
        if leaves < 0 or lands <= leaves or min(late, room, toll) < 0:
            raise Invalid("trip")


class Closing:
    """A moment at which a bag of the same name is closed (point 8)."""

    def __init__(self, name, start, goal, tick, *, size=9):
        self.name = name
        self.start = start
        self.goal = goal
        self.tick = tick
        self.size = size
        if not _are_names([name, start, goal]) or start == goal:
            raise Invalid("closing")
        if tick < 0 or size < 1:
            raise Invalid("closing")


def _by_name(things):
    """The sites, trips or closings by their names, of which no two may be the same."""
    named = {thing.name: thing for thing in things}
    if len(named) < len(things):
        raise Invalid("network")
    return named


def _found(named, name):
    if name not in named:
        raise Unknown(name)
    return named[name]


class Network:
    """Sites, trips and closings in network order (point 9)."""

    def __init__(self, sites, trips, closings):
        self.sites = tuple(sorted(sites, key=lambda site: site.name))
        self.trips = tuple(sorted(trips, key=lambda trip: (trip.leaves, trip.name)))
        self.closings = tuple(sorted(closings, key=lambda closing: (closing.tick, closing.name)))
        self._sites = _by_name(self.sites)
        self._trips = _by_name(self.trips)
        self._closings = _by_name(self.closings)
        codes = [site.code for site in self.sites]
        if len(set(codes)) < len(codes):
            raise Invalid("network")
        for ride in self.trips + self.closings:
            if ride.start not in self._sites or ride.goal not in self._sites:
                raise Invalid("network")

    def without_trip(self, name):
        """The network that lacks just that trip."""
        lost = self.trip(name)
        return Network(self.sites, [trip for trip in self.trips if trip.name != lost.name], self.closings)

    def site(self, name):
        """The site of that name."""
        return _found(self._sites, name)

    def trip(self, name):
        """The trip of that name."""
        return _found(self._trips, name)

    def closing(self, name):
        """The closing of that name."""
        return _found(self._closings, name)

    def house_of(self, kind, name):
        """The house of a site, a trip or a closing: of a ride, it is the house of its start."""
        if kind == "site":
            return self.site(name).house
        ride = self.trip(name) if kind == "trip" else self.closing(name)
        return self.site(ride.start).house
