"""Points 76 and 77: quotes, and what a promise can bear."""

import random
import unittest

from everyparcel.goods import Good
from everyparcel.network import Network, Site, Trip
from everyparcel.parcels import Parcel
from everyparcel.promises import day_sure, is_given
from everyparcel.quotes import bears, needs, quote, quotes
from everyparcel.sorting import Sorting
from everyparcel.tables import HERE, Table
from everyparcel.tariffs import ANY, BARRED, Tariff
from everyparcel.worlds import World
from tests.brute import small_worlds
from tests.helpers import invalid, raised, unknown
from tests.plain import plain_courses
from tests.test_layers import growing_world
from tests.test_runs import too_many
from tests.test_ticks import parcels_of, site_of, world_of
from tests.test_worlds import small_world


def daily_world(parcels=(), slips=0, room=1):
    """Each day a trip with little room goes from a to b, where parcels are delivered in the evening."""
    sites = [Site("a", "h", "x", "1", rounds=[20, 44, 68]), Site("b", "h", "x", "2", rounds=[21, 45, 69]),
             Site("c", "h", "x", "3")]
    trips = [Trip(f"t{day}", "a", "b", 24 * day + 10, 24 * day + 12, late=2, room=room) for day in range(3)]
    sorting = Sorting({"a": Table([("1", HERE), ("2", "b"), ("24", "c"), ("3", "c")]), "b": Table([("2", HERE)])})
    return World(Network(sites, trips, []), sorting, parcels, slips=slips)


class QuoteTest(unittest.TestCase):
    def test_days_are_counted_from_the_day_of_the_taken_tick(self):
        world = daily_world()
        for taken, days in [(0, 0), (10, 0), (11, 1), (23, 1), (24, 0), (34, 0), (35, 1), (58, 0), (59, None)]:
            self.assertEqual(quote(world, Parcel(1, "2", "a", taken)), days)

    def test_room_that_earlier_parcels_take(self):
        parcels = [Parcel(1, "2", "a", 0)]
        self.assertEqual(quote(daily_world(parcels), Parcel(2, "2", "a", 0)), 1)
        self.assertEqual(quote(daily_world(parcels, room=2), Parcel(2, "2", "a", 0)), 0)
        self.assertEqual(quote(daily_world(parcels), Parcel(7, "1", "a", 0)), 0)

    def test_none(self):
        self.assertIsNone(quote(daily_world(), Parcel(1, "3", "a", 0)))
        self.assertIsNone(quote(daily_world(), Parcel(1, "9", "a", 0)))
        # In some course it is mislaid, and never found.
        self.assertIsNone(quote(daily_world(slips=1), Parcel(1, "2", "a", 0)))
        self.assertEqual(quote(daily_world(slips=1), Parcel(1, "1", "a", 0)), 0)

    def test_days_of_its_own_do_not_matter(self):
        for days in [None, 0, 1, 9]:
            for wait in [None, 0, 1]:
                world = World(daily_world().network, daily_world().sorting, [], wait=wait)
                self.assertEqual(quote(world, Parcel(1, "2", "a", 11, days=days)), 1)
                self.assertIsNone(quote(world, Parcel(1, "2", "a", 59, days=days)))

    def test_the_ticket_comes_ahead_of_every_other_error(self):
        world = growing_world()
        for ticket in [1, 2, 3]:
            for start in ["a", "w"]:
                self.assertEqual(raised(quote, world, Parcel(ticket, "3", start, 0), most=1), invalid("world"))
                self.assertEqual(raised(quotes, world, Parcel(ticket, "3", start, 0), most=1), invalid("world"))
        self.assertIsNone(raised(quote, world, Parcel(4, "3", "a", 0), most=16))
        # A ticket between those of the world is not greater than all of them.
        world = daily_world([Parcel(5, "2", "a", 0), Parcel(2, "1", "a", 0)])
        for ticket in [1, 2, 3, 4, 5]:
            self.assertEqual(raised(quote, world, Parcel(ticket, "2", "a", 0)), invalid("world"))
        self.assertEqual(quote(world, Parcel(6, "2", "a", 0)), 1)

    def test_an_unknown_start(self):
        self.assertEqual(raised(quote, daily_world(), Parcel(1, "2", "w", 0)), invalid("world"))
        self.assertEqual(raised(quotes, daily_world(), Parcel(1, "2", "w", 0)), invalid("world"))
        self.assertEqual(raised(quote, growing_world(), Parcel(9, "2", "w", 0), most=1), invalid("world"))

    def test_too_many(self):
        world = growing_world()
        parcel = Parcel(4, "1", "a", 0)
        for call in [quote, quotes]:
            self.assertIsNone(raised(call, world, parcel, most=99))
            self.assertEqual(raised(call, world, parcel, most=7)[0], "TooMany")
        self.assertEqual(raised(quote, world, parcel, most=7), too_many(7, 5))
        self.assertEqual(raised(quote, world, parcel, most=1), too_many(1, 1))

    def test_what_is_passed_stays(self):
        world = daily_world([Parcel(1, "2", "a", 0)])
        quote(world, Parcel(2, "2", "a", 0))
        quotes(world, Parcel(2, "2", "a", 0))
        self.assertEqual(world.tickets, [1])

    def test_small_worlds(self):
        chance = random.Random(76)
        told = {}
        for world, _ in small_worlds(120, 76, least=1, most=12):
            parcel = Parcel(50, chance.choice(["1", "2", "3", "12"]), chance.choice(world.network.sites).name,
                            chance.randint(0, 30), days=chance.choice([None, 0]))
            branches = plain_courses(world.added(parcel))
            ends = [[event[0] for event in branch.events if event[1:3] == ("out", 50)] for branch in branches]
            days = None if [] in ends else max(end[0] for end in ends) // 24 - parcel.taken // 24
            self.assertEqual(quote(world, parcel), days)
            told[days is None] = told.get(days is None, 0) + 1
        self.assertGreater(min(told.values()), 2)


class QuotesTest(unittest.TestCase):
    def test_the_order_of_the_tests_and_an_unmarked_address(self):
        world = daily_world()
        self.assertEqual(world.sorting.tests(), ["1", "2", "24", "3", "0"])
        told = quotes(world, Parcel(1, "7", "a", 11))
        self.assertEqual(list(told.items()), [("1", 0), ("2", 1), ("24", None), ("3", None), ("0", None)])

    def test_without_an_unmarked_address(self):
        tables = {"a": Table([(digit, HERE) for digit in "0123456789"])}
        world = World(daily_world().network, Sorting(tables), [])
        told = quotes(world, Parcel(1, "7", "a", 11))
        self.assertEqual(list(told), list("0123456789"))
        self.assertEqual(set(told.values()), {0})

    def test_without_rows(self):
        world = World(daily_world().network, Sorting({}), [])
        self.assertEqual(quotes(world, Parcel(1, "7", "a", 11)), {"0": None})

    def test_the_quote_of_an_address_is_that_of_its_mark(self):
        chance = random.Random(77)
        for world, _ in small_worlds(40, 77, least=1, most=8):
            start, taken = chance.choice(world.network.sites).name, chance.randint(0, 9)
            told = quotes(world, Parcel(50, "5", start, taken))
            self.assertEqual(list(told), world.sorting.tests())
            for address in ["0", "1", "2", "12", "123", "21", "3", "44", "9", "99999999", "21212121"]:
                mark = world.sorting.mark(address)
                mark = world.sorting.unmarked() if mark is None else mark
                self.assertEqual(quote(world, Parcel(50, address, start, taken)), told[mark])

    def test_all_other_attributes_stay(self):
        goods = [Good("12", 5, "x")]
        network = Network([Site("a", "h", "x", "1", rounds=[20]), Site("b", "h", "y", "2", rounds=[30], sittings=[25])],
                          [Trip("t", "a", "b", 5, 9)], [])
        sorting = Sorting({"a": Table([("2", "b")]), "b": Table([("2", HERE)])})
        tariffs = {"y": Tariff("y", [("12", ANY, BARRED)])}
        world = World(network, sorting, [], tariffs=tariffs)
        self.assertEqual(quotes(world, Parcel(1, "9", "a", 0))["2"], 1)
        self.assertIsNone(quotes(world, Parcel(1, "9", "a", 0, goods=goods))["2"])
        self.assertIsNone(quotes(world, Parcel(1, "9", "b", 31, goods=goods))["2"])


class BearsTest(unittest.TestCase):
    def world(self, searches=()):
        """A parcel that has two chances: what the first trip mislays may be found for the second one."""
        sites = [site_of("a", searches=searches), site_of("b", rounds=[20])]
        trips = [Trip("t", "a", "b", 1, 4), Trip("u", "a", "b", 5, 8), Trip("v", "a", "b", 9, 12)]
        return world_of(parcels_of(1), trips, sites=sites, lanes={"a": [("3", "b")], "b": [("3", HERE)]})

    def test_each_limit(self):
        for searches, most in [((), 0), ((3,), 1), ((3, 6), 2)]:
            for limit in range(5):
                self.assertEqual(bears(self.world(searches), 1, 0, limit), min(most, limit))

    def test_no_slip_bears_it(self):
        world = world_of(parcels_of(1), [Trip("t", "a", "b", 1, 4)])
        for limit in [0, 1, 20]:
            self.assertEqual(bears(world, 1, 9, limit), -1)
        # The slips of the world itself do not count.
        self.assertEqual(bears(self.world((3,)).with_slips(5), 1, 0, 3), 1)

    def test_more_than_there_are_chances(self):
        world = world_of([Parcel(1, "1", "a", 0)], sites=[site_of("a", rounds=[5])], lanes={"a": [("1", HERE)]})
        self.assertEqual(bears(world, 1, 0, 20), 20)
        self.assertEqual(bears(world, 1, 0, 25), 25)

    def test_too_many_only_of_a_world_that_is_looked_at(self):
        # With one slip the promise is broken, so the worlds with more slips and larger layers are not looked at.
        sites = [site_of("b", rounds=[20])]
        lanes = {"a": [("3", "b")], "b": [("3", HERE)]}
        world = world_of(parcels_of(1, 2, 3), [Trip("t", "a", "b", 1, 4)], sites=sites, lanes=lanes)
        self.assertEqual(raised(day_sure, world.with_slips(2), 1, most=4), too_many(4, 1))
        self.assertEqual(bears(world, 1, 0, 20, most=4), 0)
        self.assertEqual(raised(bears, world, 1, 0, 20, most=3), too_many(3, 1))
        self.assertEqual(bears(world, 1, 0, 0, most=1), 0)

    def test_unknown_tickets(self):
        for ticket in [2, "k", "t"]:
            self.assertEqual(raised(bears, self.world(), ticket, 0, 0), unknown(ticket))
            self.assertEqual(raised(bears, growing_world(), 9, 0, 3, most=1), unknown(9))

    def test_small_worlds(self):
        found = {}
        for world, _ in small_worlds(150, 78, least=1, most=6):
            for ticket in world.tickets:
                for day in range(2):
                    told = bears(world, ticket, day, 2)
                    given = [is_given(world.with_slips(slips), ticket, day) for slips in range(3)]
                    self.assertEqual(told, (given + [False]).index(False) - 1)
                    self.assertEqual(given, [slips <= told for slips in range(3)])
                    found[told] = found.get(told, 0) + 1
        self.assertGreater(min(found.get(told, 0) for told in (-1, 0, 2)), 3, found)


class NeedsTest(unittest.TestCase):
    def test_the_example(self):
        self.assertEqual(needs(small_world(), 1, 0), ["t1"])

    def test_where_the_promise_is_given(self):
        # t1 is overtaken by nobody; of the two others either one will do.
        sites = [site_of("c", rounds=[20])]
        trips = [Trip("z", "a", "b", 1, 4), Trip("t", "b", "c", 5, 8), Trip("u", "b", "c", 6, 9)]
        world = world_of(parcels_of(1), trips, sites=sites)
        self.assertIs(is_given(world, 1, 0), True)
        self.assertEqual(needs(world, 1, 0), ["z"])
        world = world_of(parcels_of(1), trips[:2], sites=sites)
        self.assertEqual(needs(world, 1, 0), ["z", "t"])

    def test_where_the_promise_is_not_given(self):
        # Each trip is looked at by itself: no network with one trip less gives the promise.
        sites = [site_of("c", rounds=[20])]
        trips = [Trip("z", "a", "b", 1, 4), Trip("t", "b", "c", 5, 8), Trip("u", "d", "c", 0, 9)]
        world = world_of(parcels_of(1), trips[:1] + trips[2:], sites=sites)
        self.assertEqual(needs(world, 1, 0), ["u", "z"])
        # Without the trip that takes it the wrong way round, the parcel comes in time.
        lanes = {"a": [("3", "b")], "b": [("3", HERE)]}
        sites = [site_of("b", rounds=[20])]
        trips = [Trip("t", "a", "b", 1, 30), Trip("u", "a", "b", 2, 9)]
        world = world_of(parcels_of(1), trips, lanes=lanes, sites=sites)
        self.assertIs(is_given(world, 1, 0), False)
        self.assertEqual(needs(world, 1, 0), ["u"])

    def test_a_trip_that_nobody_rides(self):
        sites = [site_of("b", rounds=[20])]
        lanes = {"a": [("3", "b")], "b": [("3", HERE)]}
        trips = [Trip("t", "a", "b", 1, 9), Trip("u", "c", "d", 2, 9), Trip("v", "a", "b", 0, 3, room=0)]
        world = world_of(parcels_of(1), trips, lanes=lanes, sites=sites)
        self.assertEqual(needs(world, 1, 0), ["t"])

    def test_the_world_with_all_trips_is_not_looked_at(self):
        trips = [Trip("t", "a", "b", 1, 99, room=99), Trip("u", "a", "b", 1, 98, room=0)]
        world = world_of(parcels_of(1, 2, 3), trips[:1], slips=2)
        self.assertEqual(needs(world, 1, 0, most=1), ["t"])
        self.assertEqual(raised(is_given, world, 1, 0, most=6), too_many(6, 1))
        world = world_of(parcels_of(1, 2, 3), trips, slips=2)
        self.assertEqual(raised(needs, world, 1, 0, most=6), too_many(6, 1))
        self.assertIsNone(raised(needs, world, 1, 0, most=7))

    def test_unknown_tickets(self):
        for world in [small_world(), world_of(parcels_of(1))]:
            for ticket in [2, "k"]:
                self.assertEqual(raised(needs, world, ticket, 0), unknown(ticket))
        self.assertEqual(needs(world_of(parcels_of(1)), 1, 0), [])

    def test_network_order(self):
        sites = [site_of("c", rounds=[20])]
        trips = [Trip("a", "b", "c", 7, 9), Trip("z", "a", "b", 1, 4)]
        self.assertEqual(needs(world_of(parcels_of(1), trips, sites=sites), 1, 0), ["z", "a"])

    def test_small_worlds(self):
        for world, _ in small_worlds(50, 79, least=1, most=8):
            network = world.network
            for ticket in world.tickets:
                names = []
                for trip in network.trips:
                    others = [other for other in network.trips if other != trip]
                    less = world.with_network(Network(network.sites, others, network.closings))
                    if not is_given(less, ticket, 0):
                        names.append(trip.name)
                self.assertEqual(needs(world, ticket, 0), names)


if __name__ == "__main__":
    unittest.main()
