"""What several tests need."""

import itertools

from everyparcel.errors import ParcelError
from everyparcel.network import Closing, Network, Site, Trip
from everyparcel.sorting import Sorting
from everyparcel.tables import HERE, Table

NOT_NAMES = ["", "a" * 13, "1a", "A", "aB", "a b", "a-b", "a_b", "a\n", " a"]
NAMES = ["a", "z9", "abcdefghijkl", "a12345678901"]
NOT_ADDRESSES = ["", "123456789", "a", "1a", "1 2", "-1", "1.5", "12\n"]
ADDRESSES = ["0", "9", "00", "12345678"]


def raised(call, *given, **named):
    """The class and the attributes of the error that the call raises, or None."""
    try:
        call(*given, **named)
    except ParcelError as error:
        return (type(error).__name__, vars(error))
    return None


def invalid(what):
    """What `raised` tells of an Invalid."""
    return ("Invalid", {"what": what})


def unknown(name):
    """What `raised` tells of an Unknown."""
    return ("Unknown", {"name": name})


def sites_of(names):
    """One site for each letter, with the codes 1, 2, .."""
    return [Site(name, "h", "x", str(code)) for code, name in enumerate(names, 1)]


def small_network():
    """The network of the examples of the document."""
    south = Site("s", "h", "x", "1")
    north = Site("n", "h", "x", "2", rounds=[20, 44])
    return Network([south, north], [Trip("t1", "s", "n", 5, 8, late=2)], [])


def small_sorting():
    """The sorting of the examples of the document."""
    return Sorting({"s": Table([("2", "n")]), "n": Table([("2", HERE)])})


def mixed_network():
    """Three sites of three houses, with trips and closings; one site, trip and closing share a name."""
    sites = [Site("c", "h3", "x", "3"), Site("a", "h1", "x", "1"), Site("b", "h2", "y", "2")]
    trips = [
        Trip("z", "b", "c", 5, 9), Trip("a", "c", "a", 5, 6), Trip("k", "a", "b", 2, 9), Trip("b", "a", "b", 11, 12),
    ]
    closings = [
        Closing("y", "b", "a", 4), Closing("a", "b", "c", 4), Closing("q", "c", "a", 3), Closing("d", "a", "b", 7),
    ]
    return Network(sites, trips, closings)


def all_addresses(digits, longest):
    """All addresses of these digits up to that length, by length first."""
    found = []
    for length in range(1, longest + 1):
        found.extend("".join(signs) for signs in itertools.product(digits, repeat=length))
    return found
