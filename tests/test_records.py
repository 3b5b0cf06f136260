"""Point 55: records, their houses, and whether they are true."""

import unittest

from everyparcel.network import Closing, Network, Site, Trip
from everyparcel.records import happened, record_house
from everyparcel.runs import courses, run
from tests.helpers import invalid, mixed_network, raised, unknown
from tests.plain import some_worlds
from tests.test_ticks import parcels_of, world_of

SITE_KINDS = ["taken", "landed", "found", "emptied", "cleared", "out", "seen"]
KINDS = SITE_KINDS + ["packed", "loaded", "aboard"]


class HouseTest(unittest.TestCase):
    def setUp(self):
        # The site a is of h1; the trip a leaves from c of h3, and the closing a is at b of h2.
        self.network = mixed_network()

    def test_a_site_a_closing_and_a_trip_that_share_a_name(self):
        for kind in SITE_KINDS:
            self.assertEqual(record_house(self.network, (3, kind, 1, "a")), "h1")
        self.assertEqual(record_house(self.network, (3, "packed", 1, "a")), "h2")
        for kind in ["loaded", "aboard"]:
            self.assertEqual(record_house(self.network, (3, kind, 1, "a")), "h3")
        sites = [Site("a", "h1", "x", "1"), Site("b", "h2", "x", "2"), Site("c", "h3", "x", "3")]
        network = Network(sites, [Trip("a", "b", "c", 1, 2)], [Closing("a", "c", "b", 1)])
        told = {kind: record_house(network, (0, kind, 1, "a")) for kind in KINDS}
        self.assertEqual(told, {**{kind: "h1" for kind in SITE_KINDS}, "packed": "h3", "loaded": "h2", "aboard": "h2"})

    def test_the_house_of_the_start(self):
        for name, house in [("z", "h2"), ("k", "h1"), ("b", "h1")]:
            self.assertEqual(record_house(self.network, (3, "loaded", 1, name)), house)
            self.assertEqual(record_house(self.network, (3, "aboard", 1, name)), house)
        for name, house in [("y", "h2"), ("q", "h3"), ("d", "h1")]:
            self.assertEqual(record_house(self.network, (3, "packed", 1, name)), house)

    def test_names_of_another_kind(self):
        for kind, wheres in [("taken", ["z", "q", "x"]), ("seen", ["k", "d"]), ("loaded", ["c", "q"]),
                             ("aboard", ["y", "c"]), ("packed", ["z", "c", "k"])]:
            for where in wheres:
                self.assertEqual(raised(record_house, self.network, (3, kind, 1, where)), unknown(where))

    def test_other_kinds(self):
        for kind in ["mislaid", "claimed", "", "at", "on", "lost", "Taken", "struck"]:
            self.assertEqual(raised(record_house, self.network, (3, kind, 1, "a")), invalid("record"))

    def test_the_tick(self):
        for kind in KINDS:
            self.assertIsNone(raised(record_house, self.network, (0, kind, 1, "a")))
            self.assertIsNone(raised(record_house, self.network, (10 ** 7, kind, 1, "a")))
            self.assertEqual(raised(record_house, self.network, (-1, kind, 1, "a")), invalid("record"))

    def test_the_order_of_the_errors(self):
        self.assertEqual(raised(record_house, self.network, (-1, "taken", 1, "w")), invalid("record"))
        self.assertEqual(raised(record_house, self.network, (3, "mislaid", 1, "w")), invalid("record"))
        self.assertEqual(raised(record_house, self.network, (3, "taken", 1, "w")), unknown("w"))

    def test_the_unit_is_not_looked_at(self):
        for unit in [0, 99, "w", ""]:
            self.assertEqual(record_house(self.network, (3, "out", unit, "a")), "h1")


class HappenedTest(unittest.TestCase):
    def setUp(self):
        trips = [Trip("t", "a", "b", 4, 7, late=2)]
        self.world = world_of(parcels_of(1, 2, taken=2), trips, [Closing("k", "a", "b", 4, size=1)], slips=1)
        self.run = run(self.world)

    def check(self, record, told):
        self.assertIs(happened(self.world, self.run, record), told, record)

    def test_events(self):
        for event in self.run.events:
            self.check(event, True)
            self.check((event[0] + 1,) + event[1:], False)
        self.check((4, "loaded", "k", "t"), True)
        self.check((4, "loaded", 1, "t"), False)
        self.check((4, "packed", 1, "k"), True)
        self.check((4, "packed", 2, "k"), False)
        self.check((7, "landed", 2, "b"), True)
        self.check((7, "landed", 2, "a"), False)
        self.check((7, "out", 2, "b"), False)

    def test_seen_before_between_and_after_the_ticks(self):
        for tick, site in [(0, None), (1, None), (2, "a"), (3, "a"), (4, None), (6, None), (7, "b"), (8, "b"), (99, "b")]:
            for name in "abcd":
                self.check((tick, "seen", 2, name), name == site)

    def test_aboard_before_between_and_after_the_ticks(self):
        for tick, told in [(0, False), (3, False), (4, True), (5, True), (6, True), (7, False), (99, False)]:
            self.check((tick, "aboard", 2, "t"), told)

    def test_a_unit_in_a_bag(self):
        for unit in [1, "k"]:
            for tick in [4, 6]:
                self.check((tick, "aboard", unit, "t"), True)
                self.check((tick, "seen", unit, "a"), False)
        self.check((7, "seen", 1, "b"), True)
        self.check((7, "seen", "k", "b"), False)

    def test_a_unit_that_is_lost_or_out_is_not_seen(self):
        told = run(self.world, ((), (("t", 2),)))
        self.assertIs(happened(self.world, told, (5, "seen", 2, "a")), False)
        self.assertIs(happened(self.world, told, (3, "seen", 2, "a")), True)

    def test_the_errors(self):
        def error(*record):
            return raised(happened, self.world, self.run, record)
        self.assertEqual(error(-1, "taken", 3, "w"), invalid("record"))
        self.assertEqual(error(1, "mislaid", 3, "w"), invalid("record"))
        self.assertEqual(error(1, "claimed", 1, "a"), invalid("record"))
        self.assertEqual(error(1, "taken", 3, "w"), unknown("w"))
        self.assertEqual(error(1, "taken", 3, "a"), unknown(3))
        for kind, where in [("seen", "a"), ("aboard", "t"), ("packed", "k"), ("out", "a")]:
            self.assertEqual(error(1, kind, "w", where), unknown("w"))
            self.assertIsNone(error(1, kind, "k", where))

    def test_small_worlds(self):
        for world in some_worlds(60, 55, 12):
            for course in courses(world):
                told = run(world, course)
                for event in told.events:
                    if event[1] in KINDS:
                        self.assertIs(happened(world, told, event), True)
                    else:
                        self.assertEqual(raised(happened, world, told, event), invalid("record"))
                for tick in range(0, world.until + 1, 3):
                    for unit in world.units:
                        place = told.position(unit, tick)
                        for site in world.network.sites:
                            self.assertIs(happened(world, told, (tick, "seen", unit, site.name)), place == ("at", site.name))
                        for trip in world.network.trips:
                            self.assertIs(happened(world, told, (tick, "aboard", unit, trip.name)), place == ("on", trip.name))


if __name__ == "__main__":
    unittest.main()
