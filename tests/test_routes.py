"""Points 11 to 13: riders and units alone."""

import itertools
import random
import unittest

from everyparcel.network import Network, Site, Trip
from everyparcel.routes import landing_ticks, last_chance, soonest, surely
from tests.helpers import invalid, raised, sites_of, small_network, unknown


def network_of(*trips):
    return Network(sites_of("abcd"), list(trips), [])


def slow_arrival(network, start, goal, tick, landings):
    """The least tick at the goal by the words of point 11: each ride is tried, and the worst of its landings counts."""
    if start == goal:
        return tick
    best = None
    for trip in network.trips:
        if trip.start == start and trip.leaves >= tick:
            ends = [slow_arrival(network, trip.goal, goal, landing, landings) for landing in landings(trip)]
            if None not in ends and (best is None or max(ends) < best):
                best = max(ends)
    return best


def slow_landings(network, path, tick):
    """The landing ticks by the words of point 12, one possibility after the other."""
    if len(path) == 1:
        return {tick}
    found = set()
    for trip in network.trips:
        if (trip.start, trip.goal) == (path[0], path[1]) and trip.room > 0 and trip.leaves >= tick:
            for landing in range(trip.lands, trip.lands + trip.late + 1):
                found |= slow_landings(network, path[1:], landing)
            break
    return found


def some_networks(many):
    """Small networks with many trips, always the same ones."""
    chance = random.Random(11)
    for _ in range(many):
        trips = []
        for number in range(chance.randint(1, 9)):
            start, goal = chance.sample("abcd", 2)
            leaves = chance.randint(0, 9)
            trips.append(Trip(
                f"t{number}", start, goal, leaves, leaves + chance.randint(1, 4), late=chance.choice([0, 0, 1, 3]),
                room=chance.choice([0, 1, 9]),
            ))
        yield network_of(*trips)


class SoonestTest(unittest.TestCase):
    def test_the_example(self):
        network = small_network()
        self.assertEqual(soonest(network, "s", "n", 5), 8)
        self.assertEqual(soonest(network, "s", "n", 0), 8)
        self.assertIsNone(soonest(network, "s", "n", 6))
        self.assertIsNone(soonest(network, "n", "s", 0))

    def test_start_equal_to_goal(self):
        self.assertEqual(soonest(small_network(), "s", "s", 7), 7)
        back = network_of(Trip("t", "a", "b", 1, 2), Trip("u", "b", "a", 2, 3))
        self.assertEqual(soonest(back, "a", "a", 0), 0)

    def test_a_trip_that_leaves_at_the_landing_and_one_tick_earlier(self):
        self.assertEqual(soonest(network_of(Trip("t", "a", "b", 1, 4), Trip("u", "b", "c", 4, 6)), "a", "c", 1), 6)
        self.assertIsNone(soonest(network_of(Trip("t", "a", "b", 1, 4), Trip("u", "b", "c", 3, 6)), "a", "c", 1))

    def test_room_and_lateness_are_not_looked_at(self):
        network = network_of(Trip("t", "a", "b", 1, 4, room=0, late=9), Trip("u", "b", "c", 4, 6, room=0))
        self.assertEqual(soonest(network, "a", "c", 1), 6)

    def test_a_later_trip_may_be_sooner(self):
        network = network_of(Trip("t", "a", "b", 1, 9), Trip("u", "a", "b", 3, 5), Trip("v", "a", "c", 2, 3),
                             Trip("w", "c", "b", 3, 4))
        self.assertEqual(soonest(network, "a", "b", 0), 4)
        self.assertEqual(soonest(network, "a", "b", 3), 5)

    def test_unknown_sites(self):
        for call in [soonest, surely, last_chance]:
            self.assertEqual(raised(call, small_network(), "x", "y", 0), unknown("x"))
            self.assertEqual(raised(call, small_network(), "x", "n", 0), unknown("x"))
            self.assertEqual(raised(call, small_network(), "s", "y", 0), unknown("y"))
            self.assertEqual(raised(call, small_network(), "x", "x", 0), unknown("x"))
            self.assertEqual(raised(call, small_network(), "t1", "n", 0), unknown("t1"))

    def test_against_the_words(self):
        for network in some_networks(60):
            for start, goal in itertools.product("abcd", repeat=2):
                for tick in [0, 3, 6]:
                    slow = slow_arrival(network, start, goal, tick, lambda trip: [trip.lands])
                    self.assertEqual(soonest(network, start, goal, tick), slow)


class SurelyTest(unittest.TestCase):
    def test_the_example(self):
        network = small_network()
        self.assertEqual(surely(network, "s", "n", 5), 10)
        self.assertIsNone(surely(network, "s", "n", 6))
        self.assertEqual(surely(network, "n", "n", 6), 6)

    def test_a_trip_that_leaves_at_the_latest_landing_and_one_tick_earlier(self):
        late = Trip("t", "a", "b", 1, 2, late=2)
        self.assertEqual(surely(network_of(late, Trip("u", "b", "c", 4, 6, late=1)), "a", "c", 1), 7)
        self.assertIsNone(surely(network_of(late, Trip("u", "b", "c", 3, 6)), "a", "c", 1))
        self.assertEqual(soonest(network_of(late, Trip("u", "b", "c", 3, 6)), "a", "c", 1), 6)

    def test_room_is_not_looked_at(self):
        self.assertEqual(surely(network_of(Trip("t", "a", "b", 1, 2, room=0)), "a", "b", 1), 2)

    def test_against_the_words(self):
        for network in some_networks(60):
            for start, goal in itertools.product("abcd", repeat=2):
                for tick in [0, 3, 6]:
                    slow = slow_arrival(
                        network, start, goal, tick, lambda trip: range(trip.lands, trip.lands + trip.late + 1),
                    )
                    self.assertEqual(surely(network, start, goal, tick), slow)


class LastChanceTest(unittest.TestCase):
    def test_the_example(self):
        network = small_network()
        self.assertEqual(last_chance(network, "s", "n", 10), 5)
        self.assertEqual(last_chance(network, "s", "n", 99), 5)
        self.assertIsNone(last_chance(network, "s", "n", 9))
        self.assertIsNone(last_chance(network, "n", "s", 99))

    def test_at_zero_and_at_the_end(self):
        self.assertEqual(last_chance(small_network(), "s", "s", 7), 7)
        self.assertEqual(last_chance(small_network(), "s", "s", 0), 0)
        self.assertIsNone(last_chance(small_network(), "s", "n", 0))
        zero = network_of(Trip("t", "a", "b", 0, 1))
        self.assertEqual(last_chance(zero, "a", "b", 1), 0)
        self.assertIsNone(last_chance(zero, "a", "b", 0))
        self.assertIsNone(last_chance(zero, "a", "a", -1))

    def test_against_the_words(self):
        for network in some_networks(60):
            for start, goal in itertools.product("abcd", repeat=2):
                for by in [0, 4, 8, 12, 16]:
                    good = [tick for tick in range(by + 1)
                            if (surely(network, start, goal, tick) or 0) <= by
                            and surely(network, start, goal, tick) is not None]
                    self.assertEqual(last_chance(network, start, goal, by), max(good, default=None))


class LandingTicksTest(unittest.TestCase):
    def test_the_example(self):
        network = small_network()
        self.assertEqual(landing_ticks(network, ["s", "n"], 0), [8, 9, 10])
        self.assertEqual(landing_ticks(network, ["s", "n"], 5), [8, 9, 10])
        self.assertEqual(landing_ticks(network, ["s", "n"], 6), [])

    def test_a_path_of_one_site(self):
        self.assertEqual(landing_ticks(small_network(), ["s"], 7), [7])
        self.assertEqual(landing_ticks(small_network(), ("n",), 0), [0])

    def test_the_empty_path_and_unknown_sites(self):
        network = small_network()
        self.assertEqual(raised(landing_ticks, network, [], 0), invalid("path"))
        self.assertEqual(raised(landing_ticks, network, ["s", "x", "y"], 0), unknown("x"))
        self.assertEqual(raised(landing_ticks, network, ["x"], 0), unknown("x"))
        self.assertEqual(raised(landing_ticks, network, ["s", "s", "y"], 99), unknown("y"))

    def test_a_site_that_follows_itself(self):
        self.assertEqual(landing_ticks(small_network(), ["s", "s"], 0), [])
        self.assertEqual(landing_ticks(small_network(), ["s", "n", "n"], 0), [])

    def test_a_path_may_come_back(self):
        network = network_of(Trip("t", "a", "b", 1, 2, late=1), Trip("u", "b", "a", 3, 4), Trip("v", "a", "b", 4, 5))
        self.assertEqual(landing_ticks(network, ["a", "b", "a", "b"], 0), [5])

    def test_a_trip_that_leaves_at_the_landing_and_one_tick_earlier(self):
        first, last = Trip("t", "a", "b", 1, 4), Trip("v", "b", "c", 9, 10)
        self.assertEqual(landing_ticks(network_of(first, Trip("u", "b", "c", 4, 6), last), ["a", "b", "c"], 1), [6])
        self.assertEqual(landing_ticks(network_of(first, Trip("u", "b", "c", 3, 6), last), ["a", "b", "c"], 1), [10])

    def test_the_first_trip_in_network_order_is_taken(self):
        network = network_of(Trip("v", "a", "b", 3, 4), Trip("u", "a", "b", 3, 7), Trip("t", "a", "c", 1, 2))
        self.assertEqual(landing_ticks(network, ["a", "b"], 0), [7])

    def test_trips_without_room_are_ignored(self):
        network = network_of(Trip("t", "a", "b", 3, 4, room=0), Trip("u", "a", "b", 5, 7, room=1))
        self.assertEqual(landing_ticks(network, ["a", "b"], 0), [7])
        self.assertEqual(landing_ticks(network_of(Trip("t", "a", "b", 3, 4, room=0)), ["a", "b"], 0), [])

    def test_overtaking(self):
        network = network_of(Trip("t", "a", "b", 1, 2, late=1), Trip("slow", "b", "c", 2, 9), Trip("u", "b", "c", 3, 5))
        self.assertEqual(landing_ticks(network, ["a", "b", "c"], 0), [5, 9])

    def test_a_late_landing_may_find_no_trip(self):
        network = network_of(Trip("t", "a", "b", 1, 2, late=2), Trip("u", "b", "c", 3, 5))
        self.assertEqual(landing_ticks(network, ["a", "b", "c"], 0), [5])

    def test_overlapping_landings_are_told_once(self):
        network = network_of(
            Trip("t", "a", "b", 0, 1, late=5), Trip("u", "b", "c", 2, 10, late=9), Trip("v", "b", "c", 3, 11, late=2),
            Trip("w", "b", "c", 6, 18, late=3),
        )
        self.assertEqual(landing_ticks(network, ["a", "b", "c"], 0), list(range(10, 22)))

    def test_the_path_stays(self):
        path = ["s", "n"]
        landing_ticks(small_network(), path, 0).append(3)
        self.assertEqual(path, ["s", "n"])
        self.assertEqual(landing_ticks(small_network(), path, 0), [8, 9, 10])

    def test_against_the_words(self):
        for network in some_networks(80):
            for path in itertools.product("abcd", repeat=3):
                for tick in [0, 2, 5]:
                    self.assertEqual(landing_ticks(network, path, tick), sorted(slow_landings(network, path, tick)))

    def test_long_lateness_on_many_trips(self):
        sites = [Site("a", "h", "x", "1"), Site("b", "h", "x", "2"), Site("c", "h", "x", "3")]
        trips = [Trip("t", "a", "b", 0, 1, late=900)]
        trips += [Trip(f"u{k}", "b", "c", k, k + 1, late=900000) for k in range(800)]
        self.assertEqual(landing_ticks(Network(sites, trips, []), ["a", "b", "c"], 0), list(range(2, 900801)))


if __name__ == "__main__":
    unittest.main()
