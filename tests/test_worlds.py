"""Points 3 and 42, and the claim tick of point 45: worlds."""

import unittest

from everyparcel.network import Closing, Network, Site, Trip
from everyparcel.parcels import Parcel
from everyparcel.sorting import Sorting
from everyparcel.worlds import World
from tests.helpers import invalid, mixed_network, raised, sites_of, small_network, small_sorting, unknown


def small_world():
    """The world of the examples of the document."""
    return World(small_network(), small_sorting(), [Parcel(1, "21", "s", 3)])


def parcels_of(*tickets):
    return [Parcel(ticket, "21", "s", 3) for ticket in tickets]


def parts_of(world):
    return (world.network, world.sorting, world.parcels, world.tariffs, world.slips, world.wait)


class WorldTest(unittest.TestCase):
    def test_the_attributes(self):
        network, sorting, parcels = small_network(), small_sorting(), parcels_of(10, 2, 9)
        tariffs = {"x": "tariff"}
        world = World(network, sorting, parcels, tariffs=tariffs, slips=2, wait=3)
        self.assertEqual(parts_of(world), (network, sorting, (parcels[1], parcels[2], parcels[0]), tariffs, 2, 3))
        self.assertEqual(world.tickets, [2, 9, 10])

    def test_the_options_left_out(self):
        world = small_world()
        self.assertEqual((world.tariffs, world.slips, world.wait), ({}, 0, None))

    def test_the_units(self):
        parcels = [Parcel(ticket, "1", "a", 0) for ticket in (12, 3)]
        world = World(mixed_network(), Sorting({}), parcels)
        self.assertEqual(world.units, [3, 12, "q", "a", "y", "d"])
        self.assertEqual(World(mixed_network(), Sorting({}), []).units, ["q", "a", "y", "d"])

    def test_the_lists_and_dicts_are_copied(self):
        parcels, tariffs = parcels_of(1, 2), {"x": "tariff"}
        world = World(small_network(), small_sorting(), parcels, tariffs=tariffs)
        parcels.clear()
        tariffs.clear()
        self.assertEqual((world.tickets, len(world.parcels), world.tariffs), ([1, 2], 2, {"x": "tariff"}))
        self.assertEqual(world.parcel(2).ticket, 2)

    def test_no_ticket_stands_twice(self):
        self.assertIsNone(raised(World, small_network(), small_sorting(), parcels_of(1, 2, 3)))
        for tickets in [(1, 1), (1, 2, 1)]:
            self.assertEqual(raised(World, small_network(), small_sorting(), parcels_of(*tickets)), invalid("world"))

    def test_each_parcel_starts_at_a_site(self):
        for start in ["x", "h", "t1"]:
            parcels = parcels_of(1) + [Parcel(2, "21", start, 3)]
            self.assertEqual(raised(World, small_network(), small_sorting(), parcels), invalid("world"))
        self.assertIsNone(raised(World, small_network(), Sorting({}), [Parcel(2, "9", "n", 3)]))

    def test_slips_and_wait(self):
        for part in ["slips", "wait"]:
            self.assertIsNone(raised(World, small_network(), small_sorting(), [], **{part: 0}))
            self.assertEqual(raised(World, small_network(), small_sorting(), [], **{part: -1}), invalid("world"))
        self.assertIsNone(raised(World, small_network(), small_sorting(), [], wait=None))

    def test_the_parcel_of_a_ticket(self):
        world = World(small_network(), small_sorting(), parcels_of(4, 2))
        self.assertEqual(world.parcel(4).ticket, 4)
        for ticket in [1, 3, 0]:
            self.assertEqual(raised(world.parcel, ticket), unknown(ticket))


class ClaimTest(unittest.TestCase):
    def test_the_claim_tick(self):
        parcels = [Parcel(1, "21", "s", 30, days=1), Parcel(2, "21", "s", 30)]
        for wait, tick in [(0, 71), (1, 95), (10, 311), (None, None)]:
            world = World(small_network(), small_sorting(), parcels, wait=wait)
            self.assertEqual(world.claim_tick(1), tick)
            self.assertIsNone(world.claim_tick(2))
            self.assertEqual(raised(world.claim_tick, 3), unknown(3))

    def test_the_day_of_taken_itself(self):
        world = World(small_network(), small_sorting(), [Parcel(1, "21", "s", 30, days=0)], wait=0)
        self.assertEqual(world.claim_tick(1), 47)


class TicksTest(unittest.TestCase):
    def test_the_example(self):
        self.assertEqual(small_world().ticks, [3, 5, 8, 9, 10, 20, 44])
        self.assertEqual(small_world().until, 44)

    def test_nothing_can_happen(self):
        world = World(Network(sites_of("ab"), [], []), Sorting({}), [])
        self.assertEqual((world.ticks, world.until), ([], 0))

    def test_each_kind_of_tick(self):
        def ticks(site=Site("a", "h", "x", "1"), trips=(), closings=(), parcels=(), wait=None):
            network = Network([site, Site("b", "h", "x", "2")], trips, closings)
            return World(network, Sorting({}), parcels, wait=wait).ticks
        self.assertEqual(ticks(), [])
        self.assertEqual(ticks(site=Site("a", "h", "x", "1", rounds=[4])), [4])
        self.assertEqual(ticks(site=Site("a", "h", "x", "1", sittings=[5])), [5])
        self.assertEqual(ticks(site=Site("a", "h", "x", "1", searches=[6])), [6])
        self.assertEqual(ticks(trips=[Trip("t", "a", "b", 1, 3)]), [1, 3])
        self.assertEqual(ticks(trips=[Trip("t", "a", "b", 1, 3, late=2, room=0)]), [1, 3, 4, 5])
        self.assertEqual(ticks(closings=[Closing("d", "a", "b", 7)]), [7])
        self.assertEqual(ticks(parcels=[Parcel(1, "1", "a", 8)]), [8])
        self.assertEqual(ticks(parcels=[Parcel(1, "1", "a", 8, days=1)]), [8])
        self.assertEqual(ticks(parcels=[Parcel(1, "1", "a", 8, days=1)], wait=0), [8, 47])
        self.assertEqual(ticks(parcels=[Parcel(1, "1", "a", 8, days=1), Parcel(2, "1", "a", 9)], wait=1), [8, 9, 71])

    def test_each_tick_is_told_once(self):
        site = Site("a", "h", "x", "1", rounds=[4, 5], sittings=[4, 5], searches=[0, 4])
        trips = [Trip("t", "a", "b", 4, 5, late=1), Trip("u", "b", "a", 0, 4, late=9)]
        network = Network([site, Site("b", "h", "x", "2", rounds=[5, 40])], trips, [Closing("d", "a", "b", 5)])
        world = World(network, Sorting({}), [Parcel(1, "1", "a", 4), Parcel(2, "1", "b", 4)])
        self.assertEqual(world.ticks, [0] + list(range(4, 14)) + [40])
        self.assertEqual(world.until, 40)


class OtherWorldsTest(unittest.TestCase):
    def setUp(self):
        self.parcels = parcels_of(2, 5, 9)
        self.world = World(small_network(), small_sorting(), self.parcels, tariffs={"x": "t"}, slips=2, wait=3)

    def check(self, other, **changed):
        """The other world is like this one but for what is named, and this one stays."""
        names = ["network", "sorting", "parcels", "tariffs", "slips", "wait"]
        parts = dict(zip(names, parts_of(self.world)))
        self.assertEqual(parts_of(other), tuple({**parts, **changed}.values()))
        self.assertEqual(self.world.tickets, [2, 5, 9])

    def test_first(self):
        self.check(self.world.first(0), parcels=())
        self.check(self.world.first(2), parcels=tuple(self.parcels[:2]))
        self.check(self.world.first(3))
        self.check(self.world.first(4))
        self.assertEqual(self.world.first(1).tickets, [2])

    def test_only(self):
        self.check(self.world.only(5), parcels=(self.parcels[1],))
        for ticket in [1, 0, 10]:
            self.assertEqual(raised(self.world.only, ticket), unknown(ticket))

    def test_added(self):
        more = Parcel(7, "21", "n", 9)
        other = self.world.added(more)
        self.check(other, parcels=(self.parcels[0], self.parcels[1], more, self.parcels[2]))
        self.assertEqual(other.tickets, [2, 5, 7, 9])
        self.assertEqual(other.ticks, [3, 5, 8, 9, 10, 20, 44])
        self.assertEqual(raised(self.world.added, Parcel(5, "21", "s", 3)), invalid("world"))
        self.assertEqual(raised(self.world.added, Parcel(6, "21", "x", 3)), invalid("world"))

    def test_with_slips(self):
        self.check(self.world.with_slips(0), slips=0)
        self.assertEqual(raised(self.world.with_slips, -1), invalid("world"))

    def test_with_sorting(self):
        sorting = Sorting({})
        self.check(self.world.with_sorting(sorting), sorting=sorting)

    def test_with_network(self):
        network = Network(small_network().sites, [], [Closing("d", "s", "n", 4)])
        other = self.world.with_network(network)
        self.check(other, network=network)
        self.assertEqual((other.units, other.ticks), ([2, 5, 9, "d"], [3, 4, 20, 44]))
        self.assertEqual(raised(self.world.with_network, mixed_network()), invalid("world"))


if __name__ == "__main__":
    unittest.main()
