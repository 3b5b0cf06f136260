"""Standings: what the future of a world depends on (points 43 to 45 and 48)."""

from everyparcel.nests import NOT
from everyparcel.scenes import all_played

MOST = 500


def first_standing(world):
    """The standing before the first tick."""
    places = tuple([NOT for unit in world.units])
    return (0, places, tuple([world.network.site(parcel.start).land for parcel in world.parcels]))


def top(world, standing, unit):
    """The outermost unit that contains the unit, or the unit itself."""
    kind, name = standing[1][world.number(unit)]
    while kind == "in":
        unit = name
        kind, name = standing[1][world.number(unit)]
    return unit


def position(world, standing, unit):
    """The place of the outermost unit that contains the unit, or of the unit itself."""
    return standing[1][world.number(top(world, standing, unit))]


def steps(world, standing, tick):
    """All that can happen at the tick, as pairs of the events and the standing after them."""
    return [(tuple(scene.events), scene.standing()) for scene in all_played(world, standing, tick)]
