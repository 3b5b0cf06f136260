"""Points 43 to 45: what happens at a tick, thing by thing."""

import unittest

from everyparcel.goods import Good
from everyparcel.network import Closing, Network, Site, Trip
from everyparcel.parcels import Parcel
from everyparcel.runs import run
from everyparcel.sorting import Sorting
from everyparcel.standings import steps
from everyparcel.tables import HERE, Table
from everyparcel.tariffs import ANY, BARRED, Tariff
from everyparcel.worlds import World

# All parcels go from a by b to c, unless a test says something else.
LANES = {"a": [("3", "b"), ("2", "b")], "b": [("3", "c"), ("2", HERE)], "c": [("3", HERE)]}


def site_of(name, land="x", **options):
    return Site(name, "h", land, str("abcd".index(name) + 1), **options)


def world_of(parcels, trips=(), closings=(), lanes=None, sites=(), **options):
    """A world of the sites a to d; the sites that are passed take the place of the plain ones."""
    given = {site.name: site for site in sites}
    network = Network([given.get(name, site_of(name)) for name in "abcd"], trips, closings)
    sorting = Sorting({site: Table(rows) for site, rows in (LANES if lanes is None else lanes).items()})
    return World(network, sorting, parcels, **options)


def events_of(world, course=((), ())):
    return run(world, course).events


def kinds_at(world, tick, course=((), ())):
    return [event[1:] for event in events_of(world, course) if event[0] == tick]


def parcels_of(*tickets, taken=0, **options):
    return [Parcel(ticket, "3", "a", taken, **options) for ticket in tickets]


class LandingTest(unittest.TestCase):
    def setUp(self):
        self.world = world_of(parcels_of(3, 1, 2), [Trip("t", "a", "b", 1, 4, late=2)])

    def test_each_unit_in_rank_order(self):
        self.assertEqual(kinds_at(self.world, 4), [("landed", ticket, "b") for ticket in (1, 2, 3)])
        self.assertEqual(kinds_at(self.world, 5), [])

    def test_it_may_land_until_it_must(self):
        for extra, tick in [(0, 4), (1, 5), (2, 6)]:
            told = run(self.world, ((("t", extra),), ()))
            self.assertEqual([event[0] for event in told.events if event[1] == "landed"], [tick] * 3)
            self.assertEqual(told.position(1, tick - 1), ("on", "t"))
            self.assertEqual(told.position(1, tick), ("at", "b"))

    def test_a_trip_that_must_land_and_one_that_still_need_not(self):
        before = run(self.world, ((("t", 2),), ())).standing(4)
        places = [standing[1][0] for events, standing in steps(self.world, before, 5)]
        self.assertEqual(places, [("at", "b"), ("on", "t")])
        places = [standing[1][0] for events, standing in steps(self.world, before, 6)]
        self.assertEqual(places, [("at", "b")])

    def test_trips_in_network_order(self):
        trips = [Trip("u", "a", "b", 0, 4), Trip("t", "a", "b", 1, 4), Trip("s", "a", "b", 1, 4)]
        parcels = [Parcel(9, "3", "a", 0), Parcel(8, "3", "a", 1)]
        self.assertEqual([event[1] for event in kinds_at(world_of(parcels, trips), 4)], [9, 8])

    def test_units_in_bags_have_no_event(self):
        world = world_of(parcels_of(1, 2, 3), [Trip("t", "a", "b", 1, 4)], [Closing("k", "a", "c", 1, size=2)])
        self.assertEqual(kinds_at(world, 4), [("landed", "k", "b"), ("landed", 3, "b")])
        self.assertEqual(run(world).position(2, 4), ("at", "b"))

    def test_a_trip_without_units_makes_no_event_and_no_choice(self):
        world = world_of([], [Trip("t", "a", "b", 1, 4, late=2)])
        self.assertEqual(events_of(world), [])


class FindingTest(unittest.TestCase):
    def setUp(self):
        self.trips = [Trip("t", "a", "b", 1, 4), Trip("u", "a", "b", 6, 7)]

    def test_lost_until_the_next_search(self):
        world = world_of(parcels_of(2, 1), self.trips, sites=[site_of("a", searches=[1, 3, 5])], slips=2)
        told = run(world, ((), (("t", 1), ("t", 2))))
        self.assertEqual([told.position(1, tick) for tick in (0, 1, 2)], [("at", "a"), ("lost", "a"), ("lost", "a")])
        self.assertEqual([event for event in told.events if event[1] == "found"],
                         [(3, "found", 1, "a"), (3, "found", 2, "a")])
        self.assertEqual(told.position(1, 6), ("on", "u"))

    def test_a_search_elsewhere(self):
        world = world_of(parcels_of(1), self.trips, sites=[site_of("b", searches=[3])], slips=1)
        self.assertEqual(run(world, ((), (("t", 1),))).position(1, 99), ("lost", "a"))

    def test_a_bag_is_found_too(self):
        world = world_of(parcels_of(1, 2), self.trips, [Closing("k", "a", "c", 0)],
                         sites=[site_of("a", searches=[3])], slips=1)
        told = run(world, ((), (("t", "k"),)))
        self.assertEqual([event[1:] for event in told.events if event[0] in (1, 3)],
                         [("mislaid", "k", "a"), ("found", "k", "a")])
        self.assertEqual([told.position(2, tick) for tick in (1, 3)], [("lost", "a"), ("at", "a")])

    def test_mislaid_and_found_again_and_again(self):
        world = world_of(parcels_of(1), self.trips, sites=[site_of("a", searches=[3, 6, 8])], slips=2)
        told = run(world, ((), (("t", 1), ("u", 1))))
        self.assertEqual([event[:2] for event in told.events],
                         [(0, "taken"), (1, "mislaid"), (3, "found"), (6, "mislaid"), (8, "found")])

    def test_finding_comes_before_emptying(self):
        world = world_of(parcels_of(1), closings=[Closing("k", "a", "b", 9)], sites=[site_of("b", searches=[5])])
        told = steps(world, (1, (("in", "k"), ("lost", "b")), ("x",)), 5)
        self.assertEqual(told, [(((5, "found", "k", "b"), (5, "emptied", "k", "b")),
                                 (1, (("at", "b"), ("gone", "")), ("x",)))])


class EmptyingTest(unittest.TestCase):
    def test_at_its_goal_only(self):
        trips = [Trip("t", "a", "b", 1, 4), Trip("u", "b", "c", 5, 7)]
        world = world_of(parcels_of(1, 2), trips, [Closing("k", "a", "c", 1)])
        self.assertEqual(kinds_at(world, 4), [("landed", "k", "b")])
        self.assertEqual(kinds_at(world, 7), [("landed", "k", "c"), ("emptied", "k", "c")])
        told = run(world)
        self.assertEqual([told.position(unit, 7) for unit in (1, 2, "k")], [("at", "c"), ("at", "c"), ("gone", "")])

    def test_the_least_rank_first(self):
        world = world_of(parcels_of(2, 3) + parcels_of(1, taken=1), [Trip("t", "a", "b", 1, 4)],
                         [Closing("y", "a", "b", 0, size=1), Closing("z", "a", "b", 1, size=1)])
        self.assertEqual(kinds_at(world, 4)[3:], [("emptied", "z", "b"), ("emptied", "y", "b")])

    def test_sites_in_network_order(self):
        lanes = {"a": [("3", "c")], "d": [("2", "b")]}
        parcels = [Parcel(1, "3", "a", 0), Parcel(2, "2", "d", 0)]
        trips = [Trip("t", "a", "c", 1, 4), Trip("u", "d", "b", 1, 4)]
        world = world_of(parcels, trips, [Closing("k", "a", "c", 1), Closing("m", "d", "b", 1)], lanes)
        self.assertEqual(kinds_at(world, 4), [("landed", "k", "c"), ("landed", "m", "b"), ("emptied", "m", "b"),
                                              ("emptied", "k", "c")])

    def test_bags_in_bags_one_after_another_at_the_same_site(self):
        closings = [Closing("k", "a", "b", 0), Closing("l", "a", "b", 1), Closing("m", "a", "b", 2)]
        world = world_of(parcels_of(2, 3), [Trip("t", "a", "b", 3, 5)], closings)
        self.assertEqual([kinds_at(world, tick)[-1] for tick in (1, 2, 3)],
                         [("packed", "k", "l"), ("packed", "l", "m"), ("loaded", "m", "t")])
        self.assertEqual(kinds_at(world, 5),
                         [("landed", "m", "b"), ("emptied", "m", "b"), ("emptied", "l", "b"), ("emptied", "k", "b")])

    def test_a_bag_out_of_a_bag_has_its_turn_by_its_rank(self):
        closings = [Closing("k", "a", "b", 0, size=1), Closing("l", "a", "b", 1, size=1), Closing("m", "a", "b", 2, size=1)]
        parcels = [Parcel(5, "3", "a", 0), Parcel(1, "3", "a", 2)]
        world = world_of(parcels, [Trip("t", "a", "b", 3, 5)], closings)
        # k with 5 in l; m with 1.
        self.assertEqual([event[1] for event in kinds_at(world, 5)], ["m", "l", "m", "l", "k"])

    def test_an_inner_bag_that_goes_on(self):
        closings = [Closing("k", "a", "c", 0), Closing("l", "a", "b", 1)]
        trips = [Trip("t", "a", "b", 3, 5), Trip("u", "b", "c", 5, 8)]
        world = world_of(parcels_of(1), trips, closings)
        self.assertEqual(kinds_at(world, 5), [("landed", "l", "b"), ("emptied", "l", "b"), ("loaded", "k", "u")])
        self.assertEqual(kinds_at(world, 8), [("landed", "k", "c"), ("emptied", "k", "c")])

    def test_the_outer_bag_goes_on_with_the_inner_one(self):
        closings = [Closing("k", "a", "b", 0), Closing("l", "a", "c", 1)]
        trips = [Trip("t", "a", "b", 3, 5), Trip("u", "b", "c", 5, 8)]
        lanes = {"a": [("2", "b"), ("3", "b")], "b": [("2", "c"), ("3", "c")]}
        world = world_of(parcels_of(1), trips, closings, lanes)
        self.assertEqual(kinds_at(world, 5), [("landed", "l", "b"), ("loaded", "l", "u")])
        self.assertEqual(kinds_at(world, 8), [("landed", "l", "c"), ("emptied", "l", "c")])
        told = run(world)
        # k never lies outermost at its own goal; it is left at c, from where nothing goes to b.
        self.assertEqual(told.position("k", 99), ("at", "c"))
        self.assertEqual(told.position(1, 99), ("at", "c"))


class ClearingTest(unittest.TestCase):
    def setUp(self):
        self.trips = [Trip("t", "a", "b", 1, 4)]

    def test_parcels_are_held_until_the_next_sitting(self):
        site = site_of("b", "y", sittings=[3, 6], rounds=[5, 8])
        parcels = [Parcel(ticket, "2", "a", 0) for ticket in (2, 1)]
        world = world_of(parcels, self.trips, sites=[site])
        self.assertEqual([event for event in events_of(world) if event[0] > 4],
                         [(6, "cleared", 1, "b"), (6, "cleared", 2, "b"), (8, "out", 1, "b"), (8, "out", 2, "b")])
        self.assertEqual(run(world).standing(5)[2], ("x", "x"))
        self.assertEqual(run(world).standing(6)[2], ("y", "y"))

    def test_a_parcel_is_cleared_once(self):
        site = site_of("b", "y", sittings=[6, 7])
        self.assertEqual(kinds_at(world_of(parcels_of(1), self.trips, sites=[site]), 7), [])

    def test_no_sitting_in_the_own_land(self):
        site = site_of("b", sittings=[6])
        self.assertEqual(kinds_at(world_of(parcels_of(1), self.trips, sites=[site]), 6), [])

    def test_barred_goods_are_held_for_ever(self):
        site = site_of("b", "y", sittings=[6], rounds=[8])
        parcels = [Parcel(1, "2", "a", 0, goods=[Good("1", 5, "no")]), Parcel(2, "2", "a", 0)]
        for land, kinds in [("y", [("cleared", 2, "b"), ("out", 2, "b")]),
                            ("x", [("cleared", 1, "b"), ("cleared", 2, "b"), ("out", 1, "b"), ("out", 2, "b")])]:
            tariffs = {land: Tariff("z", [("1", ANY, BARRED)])}
            world = world_of(parcels, self.trips, sites=[site], tariffs=tariffs)
            self.assertEqual(kinds_at(world, 6) + kinds_at(world, 8), kinds)

    def test_held_parcels_are_not_loaded_packed_or_delivered(self):
        site = site_of("b", "y", rounds=[6])
        trips = self.trips + [Trip("u", "b", "c", 6, 8)]
        parcels = parcels_of(1) + [Parcel(2, "2", "a", 0)]
        world = world_of(parcels, trips, [Closing("k", "b", "c", 5)], sites=[site])
        self.assertEqual([event for event in events_of(world) if event[0] > 4], [])

    def test_cleared_back_in_the_land_of_the_start(self):
        sites = [site_of("b", "y", sittings=[4]), site_of("c", "x", rounds=[7, 9], sittings=[8])]
        world = world_of(parcels_of(1), self.trips + [Trip("u", "b", "c", 5, 6)], sites=sites)
        self.assertEqual([event[:2] for event in events_of(world)][3:],
                         [(4, "cleared"), (5, "loaded"), (6, "landed"), (8, "cleared"), (9, "out")])

    def test_bags_are_never_held(self):
        sites = [site_of("b", "y", sittings=[4]), site_of("c", "z", sittings=[7], rounds=[7])]
        world = world_of(parcels_of(1, 2), self.trips + [Trip("u", "b", "c", 5, 6)], [Closing("k", "a", "c", 0)],
                         sites=sites)
        self.assertEqual(kinds_at(world, 4), [("landed", "k", "b")])
        self.assertEqual(kinds_at(world, 5), [("loaded", "k", "u")])
        self.assertEqual(kinds_at(world, 7), [("cleared", 1, "c"), ("cleared", 2, "c"), ("out", 1, "c"), ("out", 2, "c")])

    def test_parcels_out_of_a_bag_are_held(self):
        sites = [site_of("b", "y", rounds=[4, 5, 6], sittings=[6])]
        parcels = [Parcel(1, "2", "a", 0)]
        world = world_of(parcels, self.trips, [Closing("k", "a", "b", 0)], sites=sites)
        self.assertEqual(kinds_at(world, 5), [])
        self.assertEqual(kinds_at(world, 6), [("cleared", 1, "b"), ("out", 1, "b")])


class DeliveryTest(unittest.TestCase):
    def test_ready_parcels_whose_lane_is_here(self):
        lanes = {"a": [("1", HERE), ("2", "b"), ("12", HERE), ("13", "c")]}
        parcels = [Parcel(ticket, address, "a", 0) for ticket, address in enumerate(["1", "2", "12", "13", "3", "11"], 1)]
        world = world_of(parcels, lanes=lanes, sites=[site_of("a", rounds=[2])])
        self.assertEqual(kinds_at(world, 2), [("out", 1, "a"), ("out", 3, "a"), ("out", 6, "a")])

    def test_a_bag_is_not_delivered(self):
        lanes = {"a": [("2", "c"), ("3", "c")], "c": [("2", HERE)]}
        parcels = [Parcel(1, "2", "a", 0)]
        world = world_of(parcels, [Trip("t", "a", "c", 1, 3)], [Closing("k", "a", "c", 0)], lanes,
                         sites=[site_of("c", rounds=[5])])
        self.assertEqual(kinds_at(world, 5), [("out", 1, "c")])
        lanes = {"a": [("2", "b"), ("3", HERE)], "b": [("2", "c")]}
        world = world_of(parcels, [], [Closing("k", "a", "c", 0)], lanes, sites=[site_of("a", rounds=[5])])
        # The code of the bag has the lane HERE, but the bag stays.
        self.assertEqual(kinds_at(world, 0), [("taken", 1, "a"), ("packed", 1, "k")])
        self.assertEqual(kinds_at(world, 5), [])

    def test_a_round_at_the_very_tick_of_taken(self):
        lanes = {"a": [("3", HERE)]}
        for rounds, told in [([4], None), ([4, 5], 5), ([3], None)]:
            world = world_of(parcels_of(1, taken=4), lanes=lanes, sites=[site_of("a", rounds=rounds)])
            self.assertEqual(run(world).delivered(1), told)

    def test_who_is_out_stays_out(self):
        lanes = {"a": [("3", HERE)]}
        world = world_of(parcels_of(1), lanes=lanes, sites=[site_of("a", rounds=[4, 5])])
        self.assertEqual([event[:2] for event in events_of(world)], [(0, "taken"), (4, "out")])
        self.assertEqual(run(world).position(1, 9), ("out", "a"))


class TakingTest(unittest.TestCase):
    def test_in_ascending_order_of_the_tickets(self):
        parcels = [Parcel(10, "3", "a", 5), Parcel(9, "3", "b", 5), Parcel(2, "3", "c", 5)]
        self.assertEqual(kinds_at(world_of(parcels), 5), [("taken", 2, "c"), ("taken", 9, "b"), ("taken", 10, "a")])

    def test_taken_and_closed_and_loaded_at_the_same_tick(self):
        world = world_of(parcels_of(1, 2, taken=4), [Trip("t", "a", "b", 4, 5)], [Closing("k", "a", "c", 4, size=1)])
        self.assertEqual(kinds_at(world, 4), [("taken", 1, "a"), ("taken", 2, "a"), ("packed", 1, "k"),
                                              ("loaded", "k", "t"), ("loaded", 2, "t")])

    def test_taken_after_the_last_trip(self):
        world = world_of(parcels_of(1, taken=9), [Trip("t", "a", "b", 4, 5)])
        self.assertEqual(events_of(world), [(9, "taken", 1, "a")])
        self.assertEqual(run(world).position(1, 8), ("not", ""))
        self.assertEqual(run(world).position(1, 99), ("at", "a"))


class ClosingTest(unittest.TestCase):
    def test_the_units_whose_path_leads_over_the_goal(self):
        parcels = [Parcel(1, "3", "a", 0), Parcel(2, "2", "a", 0), Parcel(3, "9", "a", 0), Parcel(4, "39", "a", 0)]
        for goal, tickets in [("b", [1, 2, 4]), ("c", [1, 4]), ("d", [])]:
            world = world_of(parcels, closings=[Closing("k", "a", goal, 3)])
            self.assertEqual(kinds_at(world, 3), [("packed", ticket, "k") for ticket in tickets])

    def test_a_closing_that_looks_at_no_unit(self):
        world = world_of(parcels_of(1, taken=4), closings=[Closing("k", "a", "b", 3)])
        self.assertEqual(events_of(world), [(4, "taken", 1, "a")])
        self.assertEqual(run(world).position("k", 3), ("not", ""))
        self.assertEqual(run(world).position("k", 9), ("not", ""))

    def test_a_closing_that_looks_at_more_than_its_size(self):
        for size in [1, 2, 3, 4]:
            world = world_of(parcels_of(4, 7, 2), closings=[Closing("k", "a", "b", 3, size=size)])
            self.assertEqual(kinds_at(world, 3), [("packed", ticket, "k") for ticket in (2, 4, 7)[:size]])
            self.assertEqual(run(world).position(7, 3), ("at", "a"))

    def test_closings_in_network_order_and_bags_in_bags(self):
        closings = [Closing("m", "a", "c", 3, size=1), Closing("l", "a", "b", 3, size=1), Closing("z", "a", "b", 2, size=1)]
        world = world_of(parcels_of(1, 2), closings=closings)
        self.assertEqual(kinds_at(world, 2), [("packed", 1, "z")])
        self.assertEqual(kinds_at(world, 3), [("packed", "z", "l"), ("packed", 2, "m")])

    def test_units_in_rank_order(self):
        world = world_of(parcels_of(5, 6) + parcels_of(1, taken=1),
                         closings=[Closing("k", "a", "b", 0), Closing("l", "a", "b", 2)])
        self.assertEqual(kinds_at(world, 2), [("packed", 1, "l"), ("packed", "k", "l")])

    def test_what_lies_elsewhere_rides_or_is_lost_is_not_looked_at(self):
        trips = [Trip("t", "a", "b", 1, 6)]
        parcels = parcels_of(1, 2) + [Parcel(3, "3", "b", 0)]
        world = world_of(parcels, trips, [Closing("k", "a", "b", 3)], slips=1)
        self.assertEqual(kinds_at(world, 3, ((), (("t", 1),))), [])

    def test_the_address_of_a_bag_is_the_code_of_its_goal(self):
        lanes = {"a": [("3", "b"), ("4", "d")], "b": [("3", "c")], "d": [("4", HERE)]}
        parcels = [Parcel(1, "4", "a", 0), Parcel(2, "3", "a", 0)]
        trips = [Trip("t", "a", "b", 5, 6), Trip("u", "a", "d", 5, 6)]
        world = world_of(parcels, trips, [Closing("k", "a", "d", 1), Closing("l", "a", "c", 1)], lanes)
        self.assertEqual(kinds_at(world, 5), [("loaded", "l", "t"), ("loaded", "k", "u")])


class LoadingTest(unittest.TestCase):
    def test_the_units_whose_lane_is_the_goal(self):
        lanes = {"a": [("3", "b"), ("31", "c"), ("4", HERE)]}
        parcels = [Parcel(1, "31", "a", 0), Parcel(2, "3", "a", 0), Parcel(3, "4", "a", 0), Parcel(4, "5", "a", 0)]
        world = world_of(parcels, [Trip("t", "a", "b", 1, 2), Trip("u", "a", "c", 1, 2)], lanes=lanes)
        self.assertEqual(kinds_at(world, 1), [("loaded", 2, "t"), ("loaded", 1, "u")])

    def test_room_that_runs_out(self):
        for room in range(5):
            world = world_of(parcels_of(4, 7, 2), [Trip("t", "a", "b", 1, 2, room=room), Trip("u", "a", "b", 1, 3)])
            told = [("loaded", ticket, "t") for ticket in (2, 4, 7)[:room]]
            self.assertEqual(kinds_at(world, 1), told + [("loaded", ticket, "u") for ticket in (2, 4, 7)[room:]])

    def test_a_bag_takes_the_room_of_one_unit(self):
        world = world_of(parcels_of(1, 2, 3), [Trip("t", "a", "b", 1, 2, room=2)], [Closing("k", "a", "b", 0, size=2)])
        self.assertEqual(kinds_at(world, 1), [("loaded", "k", "t"), ("loaded", 3, "t")])

    def test_a_mislaid_unit_takes_no_room(self):
        world = world_of(parcels_of(1, 2, 3), [Trip("t", "a", "b", 1, 2, room=1)], slips=2)
        self.assertEqual(kinds_at(world, 1, ((), (("t", 1),))), [("mislaid", 1, "a"), ("loaded", 2, "t")])
        self.assertEqual(kinds_at(world, 1, ((), (("t", 1), ("t", 2)))),
                         [("mislaid", 1, "a"), ("mislaid", 2, "a"), ("loaded", 3, "t")])

    def test_room_0_mislays_nothing(self):
        world = world_of(parcels_of(1), [Trip("t", "a", "b", 1, 2, room=0)], slips=1)
        self.assertEqual(len(steps(world, run(world).standing(0), 1)), 1)

    def test_what_one_trip_mislays_is_not_ready_for_the_next(self):
        world = world_of(parcels_of(1), [Trip("t", "a", "b", 1, 2), Trip("u", "a", "b", 1, 2)], slips=1)
        self.assertEqual(kinds_at(world, 1, ((), (("t", 1),))), [("mislaid", 1, "a")])

    def test_landed_and_loaded_at_the_same_tick(self):
        world = world_of(parcels_of(1), [Trip("t", "a", "b", 1, 2), Trip("u", "b", "c", 2, 5)])
        self.assertEqual(kinds_at(world, 2), [("landed", 1, "b"), ("loaded", 1, "u")])


class ClaimTest(unittest.TestCase):
    def test_delivery_at_the_tick_of_the_claim_before_it_and_never(self):
        lanes = {"a": [("3", HERE)]}
        for rounds, told in [([47], False), ([46], False), ([48], True), ([], True)]:
            world = world_of(parcels_of(1, days=1), lanes=lanes, sites=[site_of("a", rounds=rounds)], wait=0)
            self.assertEqual((47, "claimed", 1, "a") in events_of(world), told)
        self.assertEqual(run(world).position(1, 47), ("at", "a"))

    def test_wait_days_after_the_due_tick(self):
        world = world_of(parcels_of(1, days=0), wait=2)
        self.assertEqual(events_of(world), [(0, "taken", 1, "a"), (71, "claimed", 1, "a")])

    def test_no_claim_without_days_or_wait(self):
        self.assertEqual(len(events_of(world_of(parcels_of(1), wait=0))), 1)
        self.assertEqual(len(events_of(world_of(parcels_of(1, days=0)))), 1)

    def test_the_start_is_told_wherever_the_parcel_is(self):
        world = world_of(parcels_of(2, 1, days=0), [Trip("t", "a", "b", 1, 2)], wait=0, slips=1)
        self.assertEqual(kinds_at(world, 23, ((), (("t", 2),))), [("claimed", 1, "a"), ("claimed", 2, "a")])

    def test_taken_and_claimed_at_the_same_tick(self):
        world = world_of(parcels_of(1, taken=23, days=0), wait=0)
        self.assertEqual(events_of(world), [(23, "taken", 1, "a"), (23, "claimed", 1, "a")])

    def test_a_claim_changes_no_place_and_a_later_delivery_stays_possible(self):
        lanes = {"a": [("3", HERE)]}
        world = world_of(parcels_of(1, days=0), lanes=lanes, sites=[site_of("a", rounds=[30])], wait=0)
        self.assertEqual([event[:2] for event in events_of(world)], [(0, "taken"), (23, "claimed"), (30, "out")])

    def test_delivered_after_loading_at_the_same_tick_is_too_late(self):
        lanes = {"a": [("3", "b")], "b": [("3", HERE)]}
        world = world_of(parcels_of(1, days=0), [Trip("t", "a", "b", 1, 23)], lanes=lanes,
                         sites=[site_of("b", rounds=[23])], wait=0)
        self.assertEqual(kinds_at(world, 23), [("landed", 1, "b"), ("out", 1, "b")])


class OrderTest(unittest.TestCase):
    def test_all_nine_things_at_one_tick(self):
        """At tick 24 * 2 - 1 = 47 each kind of event happens; tickets and names tell by which unit."""
        sites = [
            site_of("a", searches=[47]),
            site_of("b", "y", searches=[47], sittings=[47], rounds=[47]),
        ]
        parcels = [
            Parcel(1, "2", "a", 0), Parcel(2, "2", "a", 10), Parcel(3, "3", "a", 20, days=1),
            Parcel(4, "3", "a", 47), Parcel(5, "2", "a", 0),
        ]
        trips = [Trip("t", "a", "b", 5, 47), Trip("u", "a", "b", 11, 40), Trip("v", "a", "b", 30, 31),
                 Trip("w", "a", "b", 47, 50)]
        closings = [Closing("k", "a", "b", 5, size=1), Closing("m", "a", "b", 47, size=2)]
        world = world_of(parcels, trips, closings, sites=sites, slips=1, wait=0)
        self.assertEqual(kinds_at(world, 47, ((), (("v", 3),))), [
            ("landed", "k", "b"), ("landed", 5, "b"),
            ("found", 3, "a"),
            ("emptied", "k", "b"),
            ("cleared", 1, "b"), ("cleared", 2, "b"), ("cleared", 5, "b"),
            ("out", 1, "b"), ("out", 2, "b"), ("out", 5, "b"),
            ("taken", 4, "a"),
            ("packed", 3, "m"), ("packed", 4, "m"),
            ("loaded", "m", "w"),
            ("claimed", 3, "a"),
        ])

    def test_sites_one_after_the_other_within_one_thing(self):
        lanes = {"a": [("1", HERE)], "b": [("1", HERE)]}
        sites = [site_of("a", rounds=[5]), site_of("b", rounds=[5])]
        parcels = [Parcel(1, "1", "b", 0), Parcel(2, "1", "a", 0), Parcel(3, "1", "b", 0)]
        world = world_of(parcels, lanes=lanes, sites=sites)
        self.assertEqual(kinds_at(world, 5), [("out", 2, "a"), ("out", 1, "b"), ("out", 3, "b")])


if __name__ == "__main__":
    unittest.main()
