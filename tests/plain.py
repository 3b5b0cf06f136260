"""A plain simulation of point 44, and small worlds to try it on.

It shares nothing with everyparcel.scenes: the places are a Nest, and where something is open the branches are split on
the spot, in the order of their choices.
"""

import random

from everyparcel.goods import Good, origin
from everyparcel.nests import Nest
from everyparcel.network import Closing, Network, Site, Trip
from everyparcel.parcels import Parcel
from everyparcel.runs import count_courses
from everyparcel.sorting import Sorting
from everyparcel.tables import HERE, Table
from everyparcel.tariffs import ANY, BARRED, Tariff
from everyparcel.worlds import World


class Branch:
    """What has happened so far in one course."""

    def __init__(self, world):
        self.world = world
        self.nest = Nest({unit: ("not", "") for unit in world.units})
        self.lands = {parcel.ticket: world.network.site(parcel.start).land for parcel in world.parcels}
        self.events = []
        self.late = []
        self.lost = []
        self.left = []
        self.standings = []

    def copy(self):
        other = Branch.__new__(Branch)
        other.world, other.nest, other.lands = self.world, self.nest, dict(self.lands)
        for part in ["events", "late", "lost", "left", "standings"]:
            setattr(other, part, list(getattr(self, part)))
        return other

    def move(self, tick, unit, place, kind, where):
        self.nest = self.nest.moved(unit, place)
        self.events.append((tick, kind, unit, where))

    def address(self, unit):
        if isinstance(unit, int):
            return self.world.parcel(unit).address
        return self.world.network.site(self.world.network.closing(unit).goal).code

    def lane(self, site, unit):
        tables = self.world.sorting
        return tables.table(site)(self.address(unit)) if site in tables.names() else None

    def held(self, site, unit):
        return isinstance(unit, int) and self.lands[unit] != self.world.network.site(site).land

    def ready(self, site):
        return [unit for unit in self.nest.lying(("at", site)) if not self.held(site, unit)]

    def standing(self):
        places = self.nest.all_places
        return (len(self.lost), tuple(places[unit] for unit in self.world.units),
                tuple(self.lands[ticket] for ticket in self.world.tickets))

    def course(self):
        order = [trip.name for trip in self.world.network.trips]
        return (tuple(sorted(self.late, key=lambda pair: order.index(pair[0]))), tuple(self.lost))


def landed(branch, trip, tick):
    riding = branch.nest.lying(("on", trip.name))
    if not riding or not trip.lands <= tick <= trip.lands + trip.late:
        return [branch]
    still = branch.copy()
    for unit in riding:
        branch.move(tick, unit, ("at", trip.goal), "landed", trip.goal)
    if tick != trip.lands:
        branch.late.append((trip.name, tick - trip.lands))
    return [branch, still] if tick < trip.lands + trip.late else [branch]


def at_sites(branch, tick):
    network = branch.world.network
    for site in network.sites:
        if tick in site.searches:
            for unit in branch.nest.lying(("lost", site.name)):
                branch.move(tick, unit, ("at", site.name), "found", site.name)
    for site in network.sites:
        while True:
            lying = branch.nest.lying(("at", site.name))
            bags = [unit for unit in lying if isinstance(unit, str) and network.closing(unit).goal == site.name]
            if not bags:
                break
            branch.nest = branch.nest.emptied(bags[0])
            branch.events.append((tick, "emptied", bags[0], site.name))
    for site in network.sites:
        for unit in branch.nest.lying(("at", site.name)) if tick in site.sittings else []:
            tariff = branch.world.tariffs.get(site.land)
            barred = [good for good in (branch.world.parcel(unit).goods if isinstance(unit, int) else [])
                      if tariff and tariff.rate(good.heading, origin(good, tariff.share)) is None]
            if branch.held(site.name, unit) and not barred:
                branch.lands[unit] = site.land
                branch.events.append((tick, "cleared", unit, site.name))
    for site in network.sites:
        for unit in branch.ready(site.name) if tick in site.rounds else []:
            if isinstance(unit, int) and branch.lane(site.name, unit) == HERE:
                branch.move(tick, unit, ("out", site.name), "out", site.name)


def taken_and_packed(branch, tick):
    for parcel in branch.world.parcels:
        if parcel.taken == tick:
            branch.move(tick, parcel.ticket, ("at", parcel.start), "taken", parcel.start)
    for closing in branch.world.network.closings:
        if closing.tick == tick:
            units = [unit for unit in branch.ready(closing.start)
                     if closing.goal in branch.world.sorting.path(closing.start, branch.address(unit))[0][1:]]
            if units:
                branch.nest = branch.nest.packed(closing.name, *units[:closing.size])
            branch.events.extend((tick, "packed", unit, closing.name) for unit in units[:closing.size])
            if units[closing.size:]:
                branch.left.append(("closing", closing.name))


def loaded(branch, trip, tick):
    done = []
    open_branches = [(branch, [unit for unit in branch.ready(trip.start) if branch.lane(trip.start, unit) == trip.goal])]
    while open_branches:
        now, units = open_branches.pop(0)
        if units and len(now.nest.lying(("on", trip.name))) < trip.room:
            if len(now.lost) < now.world.slips:
                astray = now.copy()
                astray.move(tick, units[0], ("lost", trip.start), "mislaid", trip.start)
                astray.lost.append((trip.name, units[0]))
                open_branches.insert(0, (astray, units[1:]))
            now.move(tick, units[0], ("on", trip.name), "loaded", trip.name)
            open_branches.insert(0, (now, units[1:]))
        else:
            if units:
                now.left.append(("trip", trip.name))
            done.append(now)
    return done


def after_tick(branch, tick):
    """The branches of one branch at the tick."""
    network, branches = branch.world.network, [branch]
    for trip in network.trips:
        branches = [other for one in branches for other in landed(one, trip, tick)]
    for one in branches:
        at_sites(one, tick)
        taken_and_packed(one, tick)
    for trip in network.trips:
        if trip.leaves == tick:
            branches = [other for one in branches for other in loaded(one, trip, tick)]
    for one in branches:
        for parcel in one.world.parcels:
            if one.world.claim_tick(parcel.ticket) == tick and one.nest.place(parcel.ticket)[0] != "out":
                one.events.append((tick, "claimed", parcel.ticket, parcel.start))
        one.standings.append(one.standing())
    return branches


def plain_courses(world):
    """The branches of all courses of the world, in their order."""
    branches = [Branch(world)]
    for tick in world.ticks:
        branches = [other for one in branches for other in after_tick(one, tick)]
    return branches


def made_site(chance, name, code, land):
    def some(most):
        return sorted(chance.sample(range(1, 14), chance.randint(0, most)))
    house, lag = chance.choice(["h", "k"]), chance.choice([None, 0, 2])
    return Site(name, house, land, str(code), rounds=some(4), sittings=some(3), searches=some(2), lag=lag)


def made_network(chance):
    names = "abcd"[:chance.randint(2, 4)]
    sites = [made_site(chance, name, code, chance.choice("xxy")) for code, name in enumerate(names, 1)]
    trips, closings = [], []
    for number in range(chance.randint(1, 5)):
        start, goal = chance.sample(names, 2)
        leaves = chance.randint(0, 8)
        trips.append(Trip(f"t{number}", start, goal, leaves, leaves + chance.randint(1, 3),
                          late=chance.choice([0, 0, 1, 2]), room=chance.choice([0, 1, 2, 9]), toll=number))
    for number in range(chance.randint(0, 3)):
        start, goal = chance.sample(names, 2)
        name = f"b{number}" if number else "t0"
        closings.append(Closing(name, start, goal, chance.randint(0, 7), size=chance.choice([1, 2, 9])))
    return Network(sites, trips, closings)


def made_sorting(chance, network):
    """Mostly lanes along the trips, so that units get somewhere."""
    tables = {}
    for site in network.sites:
        goals = [trip.goal for trip in network.trips if trip.start == site.name]
        rows = {site.code: HERE}
        for prefix in ["1", "2", "3", "4", "12", "21"]:
            if prefix != site.code and goals and chance.random() < 0.8:
                rows[prefix] = chance.choice(goals + [HERE] if chance.random() < 0.2 else goals)
        if chance.random() < 0.95:
            tables[site.name] = Table(list(rows.items()))
    return Sorting(tables)


def made_world(chance):
    network = made_network(chance)
    parcels = []
    for ticket in chance.sample(range(1, 13), chance.randint(0, 4)):
        address = chance.choice(["1", "2", "3", "4", "12", "21", "33"])
        goods = [Good(chance.choice(["1", "12", "2"]), chance.randint(0, 99), chance.choice("xy"))] * chance.randint(0, 1)
        parcels.append(Parcel(ticket, address, chance.choice(network.sites).name, chance.randint(0, 6), goods=goods,
                              days=chance.choice([None, 0])))
    tariffs = {"y": Tariff("y", [("1", ANY, BARRED), ("12", "x", 5)])} if chance.random() < 0.5 else None
    return World(network, made_sorting(chance, network), parcels, tariffs=tariffs, slips=chance.choice([0, 0, 1, 2]),
                 wait=chance.choice([None, 0]))


def some_worlds(many, seed, most=60):
    """Small worlds with at most so many courses, always the same ones."""
    chance = random.Random(seed)
    found = []
    while len(found) < many:
        world = made_world(chance)
        if count_courses(world, most=10 ** 6) <= most:
            found.append(world)
    return found
