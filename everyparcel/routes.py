"""How soon a rider, and a unit alone, can be somewhere (points 11 to 13)."""

from everyparcel.errors import Invalid


def _latest(trip):
    """The tick at which the trip has landed whatever happens."""
    return trip.lands + trip.late


def _check_ends(network, start, goal):
    network.site(start)
    network.site(goal)


def _arrival(rides, start, goal, tick):
    """The least tick at the goal, by pairs of trips in network order and the ticks at which they land."""
    ticks = {start: tick}
    # One pass is enough: a trip lands after it leaves, so all rides that can reach it stand before it.
    for trip, landing in rides:
        if trip.start in ticks and ticks[trip.start] <= trip.leaves:
            ticks[trip.goal] = min(landing, ticks.get(trip.goal, landing))
    return ticks.get(goal)


def soonest(network, start, goal, tick):
    """The least tick at which a rider can be at the goal if every trip lands at its earliest tick, or None."""
    _check_ends(network, start, goal)
    return _arrival([(trip, trip.lands) for trip in network.trips], start, goal, tick)


def surely(network, start, goal, tick):
    """The least tick by which a rider can be at the goal whatever the trips do, or None."""
    _check_ends(network, start, goal)
    return _arrival([(trip, _latest(trip)) for trip in network.trips], start, goal, tick)


def last_chance(network, start, goal, by):
    """The greatest tick from 0 to `by` at which a rider can still surely be at the goal by then, or None."""
    _check_ends(network, start, goal)
    if by < 0:
        return None
    ticks = {goal: by}
    # The same pass from behind: a trip helps if there is still a chance at its goal when it has landed.
    for trip in network.trips[::-1]:
        if trip.goal in ticks and _latest(trip) <= ticks[trip.goal]:
            ticks[trip.start] = max(trip.leaves, ticks.get(trip.start, 0))
    return ticks.get(start)


def _rides_between(network, start, goal):
    return [trip for trip in network.trips if trip.start == start and trip.goal == goal and trip.room > 0]


def _taken(trips, ticks):
    """The trips that a unit takes if it can be there at those ascending ticks."""
    taken = []
    place = 0
    for trip in trips:
        if place < len(ticks) and ticks[place] <= trip.leaves:
            taken.append(trip)
        # Who could have taken this trip takes no later one.
        while place < len(ticks) and ticks[place] <= trip.leaves:
            place += 1
    return taken


def every_landing(trips):
    """The ascending ticks at which one of the trips can land."""
    landings = []
    free = 0
    # Ranges of ticks overlap where trips overtake: each one adds just what those before it have not.
    for trip in sorted(trips, key=lambda ride: ride.lands):
        landings.extend(list(range(max(free, trip.lands), _latest(trip) + 1)))
        free = max(free, _latest(trip) + 1)
    return landings


def landing_ticks(network, path, tick):
    """The ascending ticks at which a unit alone can land at the last site of the path."""
    if not path:
        raise Invalid("path")
    for site in path:
        network.site(site)
    ticks = [tick]
    for start, goal in zip(path, path[1:]):
        ticks = every_landing(_taken(_rides_between(network, start, goal), ticks))
    return ticks
