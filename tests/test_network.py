"""Points 3, 4 and 6 to 9: names, sites, trips, closings and networks."""

import itertools
import unittest

from everyparcel.network import Closing, Network, Site, Trip, is_name
from tests.helpers import (
    ADDRESSES, NAMES, NOT_ADDRESSES, NOT_NAMES, invalid, mixed_network, raised, sites_of, unknown,
)

SITE = {"name": "s", "house": "h", "land": "x", "code": "1"}
TRIP = {"name": "t", "start": "s", "goal": "n", "leaves": 5, "lands": 8}
CLOSING = {"name": "b", "start": "s", "goal": "n", "tick": 5}


def site_with(**other):
    return raised(Site, **{**SITE, **other})


def trip_with(**other):
    return raised(Trip, **{**TRIP, **other})


def closing_with(**other):
    return raised(Closing, **{**CLOSING, **other})


class NameTest(unittest.TestCase):
    def test_names(self):
        for text in NAMES:
            self.assertIs(is_name(text), True, text)

    def test_other_strings(self):
        for text in NOT_NAMES:
            self.assertIs(is_name(text), False, text)

    def test_letters_and_digits_beyond_ascii_are_none(self):
        for text in ["\u00e9", "a\u00e9", "a\u0663", "a\u00b2"]:
            self.assertIs(is_name(text), False, text)


class SiteTest(unittest.TestCase):
    def test_the_attributes(self):
        site = Site("s", "h", "x", "12", rounds=[1, 2], sittings=[3], searches=[0, 9], lag=4)
        self.assertEqual((site.name, site.house, site.land, site.code), ("s", "h", "x", "12"))
        self.assertEqual((site.rounds, site.sittings, site.searches, site.lag), ((1, 2), (3,), (0, 9), 4))

    def test_the_options_left_out(self):
        site = Site("s", "h", "x", "1")
        self.assertEqual((site.rounds, site.sittings, site.searches, site.lag), ((), (), (), None))

    def test_names_and_codes(self):
        for part in ["name", "house", "land"]:
            for text in NAMES:
                self.assertIsNone(site_with(**{part: text}), text)
            for text in NOT_NAMES:
                self.assertEqual(site_with(**{part: text}), invalid("site"), text)
        for text in ADDRESSES:
            self.assertIsNone(site_with(code=text), text)
        for text in NOT_ADDRESSES:
            self.assertEqual(site_with(code=text), invalid("site"), text)

    def test_the_tick_lists(self):
        for part in ["rounds", "sittings", "searches"]:
            for ticks in [[], [0], [0, 1], (3, 7, 1000000), [1000001]]:
                self.assertIsNone(site_with(**{part: ticks}), ticks)
            for ticks in [[-1], [-1, 3], [3, 3], [4, 3], [1, 5, 5], [1, 5, 4]]:
                self.assertEqual(site_with(**{part: ticks}), invalid("site"), ticks)

    def test_the_lag(self):
        self.assertIsNone(site_with(lag=None))
        self.assertIsNone(site_with(lag=0))
        self.assertEqual(site_with(lag=-1), invalid("site"))

    def test_the_lists_are_copied(self):
        ticks = [1, 2]
        site = Site("s", "h", "x", "1", rounds=ticks, sittings=ticks, searches=ticks)
        ticks.append(3)
        self.assertEqual((site.rounds, site.sittings, site.searches), ((1, 2), (1, 2), (1, 2)))


class TripTest(unittest.TestCase):
    def test_the_attributes(self):
        trip = Trip("t", "s", "n", 5, 8, late=2, room=3, toll=4)
        self.assertEqual((trip.name, trip.start, trip.goal, trip.leaves, trip.lands), ("t", "s", "n", 5, 8))
        self.assertEqual((trip.late, trip.room, trip.toll), (2, 3, 4))

    def test_the_options_left_out(self):
        trip = Trip("t", "s", "n", 5, 8)
        self.assertEqual((trip.late, trip.room, trip.toll), (0, 9, 0))

    def test_the_names(self):
        for part in ["name", "start", "goal"]:
            for text in NAMES:
                self.assertIsNone(trip_with(**{part: text}), text)
            for text in NOT_NAMES:
                self.assertEqual(trip_with(**{part: text}), invalid("trip"), text)
        self.assertEqual(trip_with(goal="s"), invalid("trip"))
        self.assertIsNone(trip_with(name="s"))

    def test_the_ticks(self):
        self.assertIsNone(trip_with(leaves=0))
        self.assertEqual(trip_with(leaves=-1), invalid("trip"))
        self.assertIsNone(trip_with(lands=6))
        self.assertEqual(trip_with(lands=5), invalid("trip"))
        self.assertEqual(trip_with(lands=4), invalid("trip"))
        self.assertIsNone(trip_with(lands=1000001))

    def test_the_options(self):
        for part in ["late", "room", "toll"]:
            self.assertIsNone(trip_with(**{part: 0}), part)
            self.assertEqual(trip_with(**{part: -1}), invalid("trip"), part)


class ClosingTest(unittest.TestCase):
    def test_the_attributes(self):
        closing = Closing("b", "s", "n", 5, size=2)
        self.assertEqual((closing.name, closing.start, closing.goal), ("b", "s", "n"))
        self.assertEqual((closing.tick, closing.size), (5, 2))
        self.assertEqual(Closing("b", "s", "n", 5).size, 9)

    def test_the_names(self):
        for part in ["name", "start", "goal"]:
            for text in NAMES:
                self.assertIsNone(closing_with(**{part: text}), text)
            for text in NOT_NAMES:
                self.assertEqual(closing_with(**{part: text}), invalid("closing"), text)
        self.assertEqual(closing_with(goal="s"), invalid("closing"))

    def test_the_numbers(self):
        self.assertIsNone(closing_with(tick=0))
        self.assertEqual(closing_with(tick=-1), invalid("closing"))
        self.assertIsNone(closing_with(size=1))
        self.assertEqual(closing_with(size=0), invalid("closing"))


class NetworkTest(unittest.TestCase):
    def test_the_order(self):
        network = mixed_network()
        self.assertEqual([site.name for site in network.sites], ["a", "b", "c"])
        self.assertEqual([trip.name for trip in network.trips], ["k", "a", "z", "b"])
        self.assertEqual([closing.name for closing in network.closings], ["q", "a", "y", "d"])
        for part in [network.sites, network.trips, network.closings]:
            self.assertIsInstance(part, tuple)

    def test_the_order_of_the_lists_does_not_matter(self):
        network = mixed_network()
        for sites in itertools.permutations(network.sites):
            for trips in itertools.permutations(network.trips):
                other = Network(sites, trips, network.closings[::-1])
                self.assertEqual(other.sites, network.sites)
                self.assertEqual(other.trips, network.trips)
                self.assertEqual(other.closings, network.closings)

    def test_a_network_may_be_empty(self):
        network = Network([], [], [])
        self.assertEqual((network.sites, network.trips, network.closings), ((), (), ()))

    def test_the_lists_are_copied(self):
        sites, trips, closings = sites_of("ab"), [Trip("t", "a", "b", 1, 2)], [Closing("d", "a", "b", 1)]
        network = Network(sites, trips, closings)
        for given in [sites, trips, closings]:
            given.clear()
        self.assertEqual((len(network.sites), len(network.trips), len(network.closings)), (2, 1, 1))
        self.assertEqual(network.site("a").code, "1")

    def test_no_name_stands_twice(self):
        one, other = sites_of("ab")
        again = Site("a", "h", "x", "7")
        self.assertEqual(raised(Network, [one, other, again], [], []), invalid("network"))
        trips = [Trip("t", "a", "b", 1, 2), Trip("t", "b", "a", 7, 9)]
        self.assertEqual(raised(Network, [one, other], trips, []), invalid("network"))
        closings = [Closing("t", "a", "b", 1), Closing("t", "b", "a", 7)]
        self.assertEqual(raised(Network, [one, other], [], closings), invalid("network"))
        self.assertIsNone(raised(Network, [one, other], trips[:1], closings[:1]))

    def test_no_code_stands_twice(self):
        one = Site("a", "h", "x", "1")
        self.assertEqual(raised(Network, [one, Site("b", "h", "x", "1")], [], []), invalid("network"))
        self.assertIsNone(raised(Network, [one, Site("b", "h", "x", "11")], [], []))
        self.assertIsNone(raised(Network, [one, Site("b", "h", "x", "01")], [], []))

    def test_all_sites_of_trips_and_closings_exist(self):
        sites = sites_of("ab")
        for start, goal in [("a", "z"), ("z", "a")]:
            self.assertEqual(raised(Network, sites, [Trip("t", start, goal, 1, 2)], []), invalid("network"))
            self.assertEqual(raised(Network, sites, [], [Closing("t", start, goal, 1)]), invalid("network"))

    def test_a_trip_a_closing_and_a_site_may_share_a_name(self):
        network = mixed_network()
        self.assertIsInstance(network.site("a"), Site)
        self.assertIsInstance(network.trip("a"), Trip)
        self.assertIsInstance(network.closing("a"), Closing)

    def test_twenty_closings_and_one_more(self):
        for many in [20, 21]:
            closings = [Closing(f"b{k}", "a", "b", k) for k in range(many)]
            self.assertEqual(len(Network(sites_of("ab"), [], closings).closings), many)

    def test_the_look_ups(self):
        network = mixed_network()
        self.assertEqual(network.site("b").house, "h2")
        self.assertEqual(network.trip("k").lands, 9)
        self.assertEqual(network.closing("d").tick, 7)

    def test_the_look_ups_of_names_of_another_kind(self):
        network = mixed_network()
        for name in ["k", "q", "none"]:
            self.assertEqual(raised(network.site, name), unknown(name))
        for name in ["c", "q", "none"]:
            self.assertEqual(raised(network.trip, name), unknown(name))
        for name in ["c", "k", "none"]:
            self.assertEqual(raised(network.closing, name), unknown(name))

    def test_the_houses(self):
        network = mixed_network()
        self.assertEqual([network.house_of("site", name) for name in "abc"], ["h1", "h2", "h3"])
        self.assertEqual([network.house_of("trip", name) for name in "azkb"], ["h3", "h2", "h1", "h1"])
        self.assertEqual([network.house_of("closing", name) for name in "yaqd"], ["h2", "h2", "h3", "h1"])

    def test_the_houses_of_names_of_another_kind(self):
        network = mixed_network()
        self.assertEqual(raised(network.house_of, "site", "k"), unknown("k"))
        self.assertEqual(raised(network.house_of, "trip", "c"), unknown("c"))
        self.assertEqual(raised(network.house_of, "closing", "c"), unknown("c"))

    def test_without_a_trip(self):
        network = mixed_network()
        other = network.without_trip("a")
        self.assertEqual([trip.name for trip in other.trips], ["k", "z", "b"])
        self.assertEqual((other.sites, other.closings), (network.sites, network.closings))
        self.assertEqual([trip.name for trip in network.trips], ["k", "a", "z", "b"])
        self.assertEqual(raised(other.trip, "a"), unknown("a"))
        self.assertEqual(raised(network.without_trip, "c"), unknown("c"))
        self.assertEqual(raised(network.without_trip, "q"), unknown("q"))


if __name__ == "__main__":
    unittest.main()
