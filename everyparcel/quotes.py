"""What can be promised for a parcel, and what a promise can bear (points 76 and 77)."""

from everyparcel.errors import Invalid
from everyparcel.parcels import Parcel
from everyparcel.promises import day_sure, is_given
from everyparcel.standings import MOST
from everyparcel.timetable import DAY


def quote(world, parcel, *, most=MOST):
    """The least number of days that can be promised for one more parcel, or None."""
    if parcel.ticket <= max(world.tickets, default=0):
        raise Invalid("world")
    day = day_sure(world.added(parcel), parcel.ticket, most=most)
    return None if day is None else day - parcel.taken // DAY


def _addressed(parcel, address):
    """The parcel with that address."""
    return Parcel(
        parcel.ticket, address, parcel.start, parcel.taken, weight=parcel.weight, days=parcel.days,
        sender=parcel.sender, receiver=parcel.receiver, goods=parcel.goods,
    )


def quotes(world, parcel, *, most=MOST):
    """The quotes of the parcel for each address that stands for others with the same mark."""
    return {address: quote(world, _addressed(parcel, address), most=most) for address in world.sorting.tests()}


def bears(world, ticket, day, limit, *, most=MOST):
    """With how many slips, up to the limit, the promise is still given, or -1."""
    for slips in range(limit + 1):
        if not is_given(world.with_slips(slips), ticket, day, most=most):
            return slips - 1
    return limit


def needs(world, ticket, day, *, most=MOST):
    """The names of the trips, in network order, each of which the promise cannot do without."""
    world.parcel(ticket)
    found = []
    for trip in world.network.trips:
        without = world.with_network(world.network.without_trip(trip.name))
        if not is_given(without, ticket, day, most=most):
            found.append(trip.name)
    return found
