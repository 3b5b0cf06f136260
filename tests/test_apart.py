"""Points 51 to 54: earlier and later parcels, lack of room, and sortings told apart."""

import itertools
import random
import unittest

from everyparcel.apart import apart_world, crowded, earlier_course, later_course
from everyparcel.network import Closing, Trip
from everyparcel.parcels import Parcel
from everyparcel.runs import courses, run
from everyparcel.sorting import Sorting, parting_sites
from everyparcel.standings import first_standing, steps
from everyparcel.tables import HERE, Table
from everyparcel.worlds import World
from tests.helpers import invalid, raised
from tests.plain import made_network, plain_courses, some_worlds
from tests.test_runs import too_many
from tests.test_ticks import parcels_of, world_of


def positions(told, tickets, until=50):
    """The positions of the parcels after each tick of the run."""
    return [[told.position(ticket, tick) for ticket in tickets] for tick in range(until + 2)]


class EarlierTest(unittest.TestCase):
    """Point 51."""

    def setUp(self):
        # 2 rides t, 3 rides u, and both meet on v.
        trips = [Trip("t", "a", "b", 1, 3, late=2), Trip("u", "a", "b", 2, 3, late=2), Trip("v", "b", "c", 6, 7, late=2)]
        self.world = world_of(parcels_of(2) + parcels_of(3, taken=2), trips, slips=2)

    def test_the_extras_of_the_trips_that_carried_one_of_them(self):
        course = ((("t", 1), ("u", 2), ("v", 1)), ())
        told = [((), ()), ((("t", 1), ("v", 1)), ()), course, course, course]
        self.assertEqual([earlier_course(self.world, count, course) for count in (0, 1, 2, 3, 99)], told)

    def test_the_pairs_whose_unit_is_one_of_them(self):
        course = ((), (("t", 2), ("u", 3)))
        told = [((), ()), ((), (("t", 2),)), course, course]
        self.assertEqual([earlier_course(self.world, count, course) for count in (0, 1, 2, 3)], told)

    def test_the_one_form_of_the_course_counts(self):
        course = ((("v", 1), ("u", 0), ("t", 1)), (("v", 3),))
        self.assertEqual(earlier_course(self.world, 2, course), ((("t", 1), ("v", 1)), (("v", 3),)))
        self.assertEqual(earlier_course(self.world, 1, course), ((("t", 1), ("v", 1)), ()))
        course = ((("v", 1),), (("u", 3), ("t", 2)))
        self.assertEqual(earlier_course(self.world, 2, course), ((), (("t", 2), ("u", 3))))

    def test_a_mislaid_bag_with_one_of_the_lowest_tickets_and_one_without(self):
        closings = [Closing("k", "a", "c", 0, size=2), Closing("l", "a", "b", 1, size=3)]
        parcels = parcels_of(1, 5) + parcels_of(2, 3, taken=1)
        world = world_of(parcels, [Trip("t", "a", "b", 1, 4, late=1)], closings, slips=2)
        # l has k, 2 and 3, for k with 1 and 5 has the least rank.
        self.assertEqual(run(world).events[2:7], [(0, "packed", 1, "k"), (0, "packed", 5, "k")] + [
            (1, "taken", 2, "a"), (1, "taken", 3, "a"), (1, "packed", "k", "l")])
        course = ((), (("t", "l"),))
        self.assertEqual([earlier_course(world, count, course) for count in (0, 1, 2, 4)], [((), ())] + [course] * 3)
        closings = [Closing("k", "a", "c", 0, size=2)]
        world = world_of(parcels_of(4, 5) + parcels_of(1, taken=1), [Trip("t", "a", "b", 1, 4, late=1)], closings, slips=2)
        course = ((("t", 1),), (("t", "k"),))
        self.assertEqual([earlier_course(world, count, course) for count in (0, 1, 2, 3)],
                         [((), ()), ((("t", 1),), ()), course, course])

    def test_a_trip_that_carried_one_of_them_in_a_bag(self):
        world = world_of(parcels_of(1, 2), [Trip("t", "a", "b", 1, 4, late=1)], [Closing("k", "a", "c", 0)])
        course = ((("t", 1),), ())
        self.assertEqual([earlier_course(world, count, course) for count in (0, 1, 2)], [((), ()), course, course])

    def test_a_bag_in_another_bag_at_the_same_site(self):
        closings = [Closing("k", "a", "c", 0, size=1), Closing("l", "a", "c", 1, size=1)]
        trips = [Trip("t", "a", "b", 2, 4), Trip("u", "a", "b", 3, 4)]
        parcels = parcels_of(7) + parcels_of(1, taken=1) + parcels_of(4, taken=3)
        world = world_of(parcels, trips, closings, slips=2)
        course = ((), (("t", "l"), ("u", 4)))
        self.assertEqual([earlier_course(world, count, course) for count in (1, 2, 3)], [((), (("t", "l"),)), course, course])

    def test_later_course(self):
        first = self.world.first(1)
        for course in courses(first):
            self.assertEqual(later_course(self.world, 1, course), course)
        course = ((("v", 1), ("u", 2), ("t", 1)), ())
        self.assertEqual(later_course(self.world, 1, course), ((("t", 1), ("v", 1)), ()))
        self.assertEqual(later_course(self.world, 0, course), ((), ()))
        for count in (2, 9):
            self.assertEqual(later_course(self.world, count, course), ((("t", 1), ("u", 2), ("v", 1)), ()))

    def test_a_course_to_which_both_lead_back(self):
        course = ((("t", 1), ("v", 2)), (("u", 3),))
        self.assertEqual(later_course(self.world, 2, earlier_course(self.world, 2, course)), course)
        course = ((("t", 1), ("v", 2)), ())
        for count in (1, 2, 3):
            self.assertEqual(earlier_course(self.world, count, later_course(self.world, count, course)), course)
            self.assertEqual(later_course(self.world, count, earlier_course(self.world, count, course)), course)

    def test_the_errors_of_run(self):
        wrong = invalid("course")
        self.assertEqual(raised(earlier_course, self.world, 1, ((("w", 0),), ())), wrong)
        self.assertEqual(raised(later_course, self.world, 1, ((("w", 0),), ())), wrong)
        # u comes to 3 in the world, but not in the world of the lowest ticket.
        course = ((), (("u", 3),))
        self.assertIsNone(raised(earlier_course, self.world, 0, course))
        self.assertIsNone(raised(earlier_course, self.world, 1, course))
        self.assertEqual(raised(later_course, self.world, 1, course), wrong)
        self.assertEqual(raised(later_course, self.world, 0, course), wrong)
        self.assertIsNone(raised(later_course, self.world, 2, course))
        self.assertEqual(raised(earlier_course, self.world, 1, ((), (("u", 2),))), wrong)

    def test_what_one_world_takes_and_the_other_does_not(self):
        # With both parcels t has no room for 3; alone 3 rides it.
        world = world_of(parcels_of(2, 3), [Trip("t", "a", "b", 1, 3, room=1)], slips=1)
        self.assertEqual(raised(earlier_course, world, 2, ((), (("t", 3),))), invalid("course"))
        self.assertEqual(raised(later_course, world, 1, ((), (("t", 3),))), invalid("course"))

    def test_the_later_never_disturbs_the_earlier(self):
        many = 0
        for world in some_worlds(250, 51, 30):
            runs = {course: run(world, course) for course in courses(world)}
            for count in range(len(world.tickets) + 2):
                first, tickets = world.first(count), world.tickets[:count]
                firsts = {course: run(first, course) for course in courses(first)}
                for course, told in runs.items():
                    earlier = earlier_course(world, count, course)
                    self.assertIn(earlier, firsts)
                    self.assertEqual(positions(told, tickets), positions(firsts[earlier], tickets))
                    many += ((), ()) != earlier != course
                for course, told in firsts.items():
                    later = later_course(world, count, course)
                    self.assertIn(later, runs)
                    self.assertEqual(earlier_course(world, count, later), course)
                    self.assertEqual(positions(runs[later], tickets), positions(told, tickets))
        self.assertGreater(many, 20)


class CrowdedTest(unittest.TestCase):
    """Points 52 and 54."""

    def test_nothing_is_crowded(self):
        world = world_of(parcels_of(1, 2), [Trip("t", "a", "b", 1, 2, room=2)], [Closing("k", "a", "b", 5)])
        self.assertEqual(crowded(world), [])
        self.assertEqual(crowded(world_of([])), [])

    def test_room_that_just_suffices_and_room_that_does_not(self):
        for many, told in [(2, []), (3, ["t"])]:
            world = world_of(parcels_of(*range(1, many + 1)), [Trip("t", "a", "b", 1, 2, room=2)])
            self.assertEqual(crowded(world), told)

    def test_a_trip_with_room_0(self):
        trip = Trip("t", "a", "b", 1, 2, room=0)
        self.assertEqual(crowded(world_of(parcels_of(1), [trip])), ["t"])
        self.assertEqual(crowded(world_of(parcels_of(1, taken=2), [trip])), [])
        self.assertEqual(crowded(world_of([Parcel(1, "9", "a", 0)], [trip])), [])

    def test_a_closing_that_looks_at_more_than_its_size(self):
        for size, told in [(1, ["k"]), (2, ["k"]), (3, []), (4, [])]:
            world = world_of(parcels_of(1, 2, 3), closings=[Closing("k", "a", "b", 1, size=size)])
            self.assertEqual(crowded(world), told)

    def test_network_order_and_a_trip_and_a_closing_of_the_same_name(self):
        trips = [Trip("t", "a", "b", 9, 12, room=0), Trip("k", "a", "b", 8, 12, room=0), Trip("z", "a", "b", 3, 4, room=0)]
        closings = [Closing("k", "a", "b", 5, size=1), Closing("b", "a", "b", 6, size=1), Closing("z", "a", "b", 4, size=1)]
        world = world_of(parcels_of(*range(1, 6)), trips, closings)
        self.assertEqual(crowded(world), ["z", "k", "t", "z", "k", "b"])

    def test_in_some_course_only(self):
        # If t lands at 3 or 4, its parcel rides u; only if it is later, both are there for v.
        trips = [Trip("t", "a", "b", 1, 3, late=2), Trip("u", "b", "c", 4, 8), Trip("v", "b", "c", 6, 8, room=1)]
        parcels = parcels_of(1) + [Parcel(2, "3", "b", 5)]
        self.assertEqual(crowded(world_of(parcels, trips)), ["v"])
        self.assertEqual(crowded(world_of(parcels, [Trip("t", "a", "b", 1, 3, late=1)] + trips[1:])), [])

    def test_what_is_mislaid_takes_no_room(self):
        world = world_of(parcels_of(1, 2), [Trip("t", "a", "b", 1, 2, room=1)], slips=0)
        self.assertEqual(crowded(world), ["t"])
        self.assertEqual(crowded(world.with_slips(2)), ["t"])

    def test_against_all_courses_of_small_worlds(self):
        several = 0
        for world in some_worlds(250, 52):
            left = {ride for branch in plain_courses(world) for ride in branch.left}
            told = [trip.name for trip in world.network.trips if ("trip", trip.name) in left]
            told += [closing.name for closing in world.network.closings if ("closing", closing.name) in left]
            self.assertEqual(crowded(world, most=10 ** 6), told)
            several += len(told) > 1
            if not told:
                self.check_alone(world)
        self.assertGreater(several, 3)

    def check_alone(self, world):
        """Each parcel has the same possible positions as in the world that has only this parcel."""
        runs = [run(world, course) for course in courses(world)]
        for ticket in world.tickets:
            alone = [run(world.only(ticket), course) for course in courses(world.only(ticket))]
            for tick in world.ticks:
                self.assertEqual({told.position(ticket, tick) for told in runs},
                                 {told.position(ticket, tick) for told in alone})

    def test_the_limit_and_one_below_it(self):
        trips = [Trip(f"t{k}", "a", "b", 2 * k + 1, 99) for k in range(3)]
        parcels = [Parcel(k + 1, "3", "a", 2 * k) for k in range(3)]
        world = world_of(parcels, trips, slips=3)
        self.assertEqual(crowded(world, most=8), [])
        self.assertEqual(raised(crowded, world, most=7), too_many(7, 5))
        self.assertEqual(raised(crowded, world, most=3), too_many(3, 3))
        self.assertEqual(raised(crowded, world, most=1), too_many(1, 1))

    def test_the_limit_is_500_by_default(self):
        trips = [Trip("t", "a", "b", 1, 99, room=99)]
        for many, told in [(8, None), (9, too_many(500, 1))]:
            world = world_of(parcels_of(*range(1, many + 1)), trips, slips=99)
            self.assertEqual(raised(crowded, world), told)

    def test_the_layers_of_small_worlds(self):
        for world in some_worlds(60, 54):
            sizes, layer = [], {first_standing(world)}
            for tick in world.ticks:
                layer = {after for before in layer for _, after in steps(world, before, tick)}
                sizes.append(len(layer))
            for most in range(1, max(sizes, default=1)):
                tick = next(tick for tick, size in zip(world.ticks, sizes) if size > most)
                self.assertEqual(raised(crowded, world, most=most), too_many(most, tick))


def sorting_of(**rows):
    return Sorting({site: Table.written(**lanes) for site, lanes in rows.items()})


class ApartTest(unittest.TestCase):
    """Point 53."""

    def check(self, one, other, entries):
        """Two worlds as the point says; what is returned is the parting and the two lists of positions."""
        worlds = apart_world(one, other, entries)
        self.assertIsInstance(worlds, tuple)
        first, second = worlds
        self.assertIs(first.network, second.network)
        self.assertEqual(first.network.closings, ())
        self.assertEqual((first.slips, second.slips), (0, 0))
        self.assertEqual(vars(first.parcels[0]), vars(second.parcels[0]))
        self.assertEqual((len(first.parcels), len(second.parcels)), (1, 1))
        self.assertIs(first.sorting, one)
        self.assertIs(second.sorting, other)
        parcel = first.parcels[0]
        self.assertIn(parcel.start, entries)
        told = [positions(run(world), [parcel.ticket], world.until) for world in worlds]
        self.assertNotEqual(*told)
        return (parcel.start, parcel.address)

    def test_they_part_at_once(self):
        one = sorting_of(a={"p1": "b"}, b={"p1": HERE})
        for lanes in [{"p1": "c"}, {"p1": HERE}, {}]:
            other = sorting_of(a=lanes, b={"p1": HERE})
            self.assertEqual(self.check(one, other, ["b", "a"]), ("a", "1"))
            self.assertEqual(self.check(other, one, ["a"]), ("a", "1"))

    def test_here_against_none(self):
        one, other = sorting_of(a={"p1": HERE}), sorting_of(a={"p2": "b"})
        self.check(one, other, ["a"])
        self.check(other, one, ["a"])
        self.check(sorting_of(a={"p1": HERE}), Sorting({}), ["b", "a"])

    def test_they_part_behind_several_sites(self):
        one = sorting_of(a={"p1": "b"}, b={"p1": "c"}, c={"p1": "d"}, d={"p1": HERE})
        for lanes in [{"p1": "a"}, {"p1": "e"}, {}, {"p1": "b"}]:
            other = sorting_of(a={"p1": "b"}, b={"p1": "c"}, c={"p1": "d"}, d=lanes)
            self.assertEqual(self.check(one, other, ["a"]), ("a", "1"))
            self.assertEqual(self.check(other, one, ["x", "b", "a"]), ("b", "1"))

    def test_loop_against_none(self):
        one = sorting_of(a={"p1": "b"}, b={"p1": "a"})
        other = sorting_of(a={"p1": "b"})
        self.assertEqual([one.path("a", "1")[1], other.path("a", "1")[1]], ["loop", "none"])
        self.check(one, other, ["a"])
        self.check(other, one, ["a"])

    def test_loops_of_other_lengths(self):
        one = sorting_of(a={"p1": "b"}, b={"p1": "c"}, c={"p1": "b"})
        other = sorting_of(a={"p1": "b"}, b={"p1": "c"}, c={"p1": "a"})
        self.check(one, other, ["a"])

    def test_a_site_that_only_one_of_them_names(self):
        one = sorting_of(a={"p1": "b"}, b={"p1": "m"}, m={"p1": HERE})
        other = sorting_of(a={"p1": "b"})
        self.check(one, other, ["a"])
        self.check(other, one, ["a"])
        one = sorting_of(a={"p1": "b"}, b={"p1": HERE})
        self.check(one, other, ["a"])
        self.check(sorting_of(a={"p1": "b"}), sorting_of(a={"p1": "q"}), ["a"])

    def test_entries_that_do_not_part(self):
        one = sorting_of(a={"p1": "b"}, b={"p1": HERE}, c={"p1": HERE})
        other = sorting_of(a={"p1": "b"}, b={"p1": HERE}, c={"p1": "a"})
        self.assertIsNone(apart_world(one, other, ["a", "b"]))
        self.assertIsNone(apart_world(one, other, []))
        self.assertIsNone(apart_world(one, one, ["a", "b", "c"]))
        self.assertEqual(self.check(one, other, ("a", "c", "b")), ("c", "1"))

    def test_a_long_way(self):
        names = [f"s{number}" for number in range(150)]
        tables = {name: Table([("1", after)]) for name, after in zip(names, names[1:])}
        one, other = Sorting(tables), Sorting({**tables, names[-1]: Table([("1", HERE)])})
        self.assertEqual(self.check(one, other, names[:1]), ("s0", "1"))

    def test_all_pairs_of_small_sortings(self):
        def tables(site):
            goals = [goal for goal in "abc" if goal != site]
            return [Table.written(**rows) for rows in (
                {}, {"p1": HERE}, {"p1": goals[0]}, {"p1": goals[1]}, {"p1": goals[0], "p12": HERE})]
        sortings = [Sorting({"a": one, "b": other, "c": third})
                    for one, other, third in itertools.product(tables("a"), tables("b"), tables("c"))]
        chance = random.Random(53)
        parted = 0
        for one, other in (chance.sample(sortings, 2) for _ in range(1500)):
            entries = chance.sample("abc", chance.randint(0, 3))
            parting = parting_sites(one, other, entries)
            if parting is None:
                self.assertIsNone(apart_world(one, other, entries))
            else:
                self.assertEqual(self.check(one, other, entries), parting)
                parted += 1
        self.assertGreater(parted, 500)

    def test_the_other_way_round(self):
        """Sortings that do not part have the same courses and events in networks without closings."""
        chance = random.Random(530)
        some = 0
        while some < 30:
            world = next(iter(some_worlds(1, chance.random())))
            network = made_network(chance)
            sites = [site.name for site in network.sites]
            if network.closings or not set(parcel.start for parcel in world.parcels) <= set(sites):
                continue
            entries = sorted({parcel.start for parcel in world.parcels})
            other = world.sorting
            for site in [site for site in sites if site not in entries]:
                other = other.changed(site, "3", HERE)
            if parting_sites(world.sorting, other, entries) is None:
                some += 1
                told = [World(network, sorting, world.parcels, slips=1) for sorting in (world.sorting, other)]
                found = [[run(one, course).events for course in itertools.islice(courses(one), 20)] for one in told]
                self.assertEqual(*found)

    def test_alike_tables(self):
        for world in some_worlds(60, 531, 30):
            tables = {site: world.sorting.table(site).least() for site in world.sorting.names()}
            for site in world.network.sites:
                tables.setdefault(site.name, Table([]))
            other = world.with_sorting(Sorting(tables))
            self.assertIsNone(apart_world(world.sorting, other.sorting, list(tables)))
            self.assertEqual([run(world, course).events for course in courses(world)],
                             [run(other, course).events for course in courses(other)])


if __name__ == "__main__":
    unittest.main()
