"""What parcels and sortings have to do with each other, and what not (points 51 to 54)."""

from everyparcel.errors import TooMany
from everyparcel.network import Network, Site, Trip
from everyparcel.parcels import Parcel
from everyparcel.runs import run
from everyparcel.scenes import all_played
from everyparcel.sorting import parting_sites
from everyparcel.standings import MOST, first_standing, top
from everyparcel.worlds import World


def _carried(whole, trip, tickets):
    """Whether the trip carries one of the tickets in the run."""
    return ("on", trip.name) in [whole.position(ticket, trip.leaves) for ticket in tickets]


def _was_in(whole, unit, trip, tickets):
    """Whether the unit that the trip did not take contains one of the tickets in the run."""
    standing = whole.standing(trip.leaves)
    return unit in [top(whole.world, standing, ticket) for ticket in tickets]


def earlier_course(world, count, course):
    """The course that a course of the world leaves to the lowest tickets."""
    whole = run(world, course)
    tickets = world.tickets[:count]
    trips = {trip.name: trip for trip in world.network.trips}
    late = [pair for pair in whole.course[0] if _carried(whole, trips[pair[0]], tickets)]
    lost = [pair for pair in whole.course[1] if _was_in(whole, pair[1], trips[pair[0]], tickets)]
    return (tuple(late), tuple(lost))


def later_course(world, count, course):
    """The course of the world in which just that happens which a course of the world of the lowest tickets names."""
    # Its one form needs no change: with more parcels each trip still carries, or comes to, the units that it names.
    return run(world.first(count), course).course


def _layer_after(world, layer, tick, most):
    """The standings after the tick, by those before it, and what leaves a unit behind at the tick."""
    found = {}
    left = {}
    for standing in layer:
        for scene in all_played(world, standing, tick):
            found[scene.standing()] = True
            for ride in scene.left:
                left[ride] = True
            if len(found) > most:
                raise TooMany(most, tick)
    return (list(found), list(left))


def crowded(world, *, most=MOST):
    """The names of the trips, and then of the closings, that leave a unit behind in some course."""
    layer = [first_standing(world)]
    left = {}
    for tick in world.ticks:
        layer, left_now = _layer_after(world, layer, tick, most)
        for ride in left_now:
            left[ride] = True
    trips = [trip.name for trip in world.network.trips if ("trip", trip.name) in left]
    return trips + [closing.name for closing in world.network.closings if ("closing", closing.name) in left]


def _common_sites(path, other):
    """The sites with which both paths begin."""
    found = []
    for site, other_site in zip(path, other):
        if site != other_site:
            return found
        found.append(site)
    return found


def _telling_network(path, other):
    """A network in which a parcel on the one path and a parcel on the other come to different places."""
    common = _common_sites(path, other)
    ways = path[len(common):] + other[len(common):]
    route = common + ways[:1]
    # Where neither path goes on, one of them ends by a delivery.
    rounds = [] if ways else [len(common)]
    names = {site: True for site in route}
    sites = [Site(name, "h", "x", str(code), rounds=rounds) for code, name in enumerate(names)]
    trips = [Trip(f"t{at}", route[at], route[at + 1], at, at + 1) for at in range(len(route) - 1)]
    return Network(sites, trips, [])


def apart_world(one, other, entries):
    """Two worlds that tell the sortings apart, or None."""
    parting = parting_sites(one, other, entries)
    if parting is None:
        return None
    start, address = parting
    network = _telling_network(one.path(start, address)[0], other.path(start, address)[0])
    parcel = Parcel(1, address, start, 0)
    return (World(network, one, [parcel]), World(network, other, [parcel]))
