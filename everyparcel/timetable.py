"""Ticks and trips that come again, and the texts of a timetable (points 10 and 14)."""

from everyparcel.errors import Invalid
from everyparcel.network import Trip
from everyparcel.spelling import spells_number

DAY = 24


def daily(hour, first, days):
    """The ticks at that hour of so many days, beginning with the day `first`."""
    return [DAY * (first + day) + hour for day in range(days)]


def _later(trip, number, delay):
    """The trip of that number in a row of repeated ones."""
    return Trip(
        f"{trip.name}x{number}", trip.start, trip.goal, trip.leaves + delay, trip.lands + delay,
        late=trip.late, room=trip.room, toll=trip.toll,
    )


def repeated(trip, every, times):
    """The trip so many times, each time `every` ticks later than the time before."""
    return [_later(trip, number, every * number) for number in range(times)]


def trip_text(trip):
    """The line of the trip."""
    numbers = [trip.leaves, trip.lands, trip.late, trip.room, trip.toll]
    return " ".join([trip.name, trip.start, trip.goal] + [str(number) for number in numbers])


def read_trip(line):
    """The trip whose line it is."""
    parts = line.split(" ")
    if len(parts) != 8 or "" in parts:
        raise Invalid("line")
    # Longer numbers are refused before they are read: Python reads only so many digits.
    if not all([spells_number(part, 12) for part in parts[3:]]):
        raise Invalid("line")
    leaves, lands, late, room, toll = [int(part) for part in parts[3:]]
    return Trip(parts[0], parts[1], parts[2], leaves, lands, late=late, room=room, toll=toll)


def timetable_text(network):
    """The lines of all trips in network order, each followed by a newline."""
    return "".join([trip_text(trip) + "\n" for trip in network.trips])
