"""Points 43 to 47, 49, 50 and 54: runs, courses, how many there are, and the table of events."""

import itertools
import unittest

from everyparcel.network import Closing, Network, Trip
from everyparcel.parcels import Parcel
from everyparcel.routes import soonest
from everyparcel.runs import Run, count_courses, courses, events_table, run
from everyparcel.sorting import Sorting
from everyparcel.standings import first_standing, steps
from everyparcel.worlds import World
from tests.helpers import invalid, raised, sites_of, unknown
from tests.plain import plain_courses, some_worlds
from tests.test_ticks import parcels_of, site_of, world_of
from tests.test_worlds import small_world


def too_many(limit, tick):
    return ("TooMany", {"limit": limit, "tick": tick})


class RunTest(unittest.TestCase):
    def test_the_example(self):
        told = run(small_world())
        self.assertEqual(told.events, [(3, "taken", 1, "s"), (5, "loaded", 1, "t1"), (8, "landed", 1, "n"),
                                       (20, "out", 1, "n")])
        self.assertEqual(told.course, ((), ()))
        self.assertIsInstance(told, Run)

    def test_the_world(self):
        world = small_world()
        self.assertIs(run(world).world, world)

    def test_everything_goes_well_by_default(self):
        world = world_of(parcels_of(1, 2), [Trip("t", "a", "b", 1, 2, late=3)], slips=2)
        self.assertEqual(run(world).events, run(world, ((), ())).events)
        self.assertEqual([event[:2] for event in run(world).events][2:], [(1, "loaded")] * 2 + [(2, "landed")] * 2)

    def test_before_the_first_tick_between_ticks_and_after_the_last_one(self):
        world = small_world()
        told = run(world, ((("t1", 1),), ()))
        before = (("not", ""), ("at", "s"), ("on", "t1"), ("at", "n"), ("out", "n"))
        for tick, number in [(0, 0), (2, 0), (3, 1), (4, 1), (5, 2), (8, 2), (9, 3), (19, 3), (20, 4), (44, 4), (10 ** 6, 4)]:
            self.assertEqual(told.position(1, tick), before[number])
            self.assertEqual(told.standing(tick), (0, (before[number],), ("x",)))
        self.assertEqual(told.standing(-1), first_standing(world))

    def test_units_and_tickets_that_the_world_does_not_have(self):
        world = world_of(parcels_of(1), closings=[Closing("k", "a", "b", 3)])
        told = run(world)
        for unit in [2, 0, "l", "a", ""]:
            for tick in [-1, 0, 99]:
                self.assertEqual(raised(told.position, unit, tick), unknown(unit))
            self.assertEqual(raised(told.delivered, unit), unknown(unit))
        self.assertEqual(raised(told.delivered, "k"), unknown("k"))
        self.assertEqual(told.position("k", 3), ("at", "a"))

    def test_the_tick_of_delivery(self):
        world = small_world().added(Parcel(2, "21", "s", 6)).added(Parcel(3, "21", "n", 30))
        told = run(world)
        self.assertEqual([told.delivered(ticket) for ticket in (1, 2, 3)], [20, None, 44])

    def test_worlds_without_parcels_without_trips_and_without_ticks(self):
        for world in [world_of([]), world_of([], [Trip("t", "a", "b", 1, 2, late=1)], slips=1)]:
            self.assertEqual((run(world).events, run(world).course, list(courses(world))), ([], ((), ()), [((), ())]))
        self.assertEqual(run(world_of(parcels_of(1))).events, [(0, "taken", 1, "a")])
        world = World(Network(sites_of("ab"), [], []), Sorting({}), [])
        self.assertEqual((world.ticks, run(world).events, run(world).standing(5)), ([], [], (0, (), ())))
        self.assertEqual((list(courses(world)), count_courses(world, most=1)), ([((), ())], 1))

    def test_a_run_stays_when_another_one_is_made(self):
        world = world_of(parcels_of(1, 2), [Trip("t", "a", "b", 1, 2, late=3)], slips=1)
        one = run(world, ((("t", 2),), (("t", 2),)))
        events, standings = list(one.events), [one.standing(tick) for tick in range(7)]
        other = run(world, ((("t", 1),), (("t", 1),)))
        other.events.clear()
        run(world)
        self.assertEqual(one.events, events)
        self.assertEqual([one.standing(tick) for tick in range(7)], standings)
        self.assertEqual(one.course, ((("t", 2),), (("t", 2),)))


class CourseTest(unittest.TestCase):
    """Point 46: which courses there are."""

    def setUp(self):
        trips = [Trip("t", "a", "b", 1, 4, late=2), Trip("u", "b", "c", 5, 8, late=1), Trip("v", "d", "a", 0, 1, late=3)]
        self.world = world_of(parcels_of(1, 2), trips, [Closing("k", "b", "d", 5)], slips=2)

    def check(self, late, lost, told):
        wrong = raised(run, self.world, (late, lost))
        self.assertEqual(wrong, None if told else invalid("course"))

    def test_a_trip_that_is_named_twice(self):
        self.check((("t", 1),), (), True)
        self.check((("t", 1), ("t", 1)), (), False)
        self.check((("t", 1), ("u", 1), ("t", 0)), (), False)
        self.check((("v", 1), ("v", 1)), (), False)

    def test_an_unknown_trip(self):
        for name in ["w", "", "k", "a"]:
            self.check(((name, 0),), (), False)

    def test_extras(self):
        for extra in range(3):
            self.check((("t", extra),), (), True)
        for extra in [-1, 3]:
            self.check((("t", extra),), (), False)
        self.check((("v", 3),), (), True)
        self.check((("v", 4),), (), False)
        self.check((("v", -1),), (), False)

    def test_a_pair_twice(self):
        self.check((), (("t", 1), ("t", 2)), True)
        self.check((), (("t", 1), ("t", 1)), False)

    def test_more_pairs_than_slips(self):
        world = world_of(parcels_of(1, 2, 3), [Trip("t", "a", "b", 1, 4)], slips=2)
        for many, told in [(0, None), (1, None), (2, None), (3, invalid("course"))]:
            lost = tuple(("t", ticket) for ticket in (1, 2, 3)[:many])
            self.assertEqual(raised(run, world, ((), lost)), told)
        self.assertEqual(raised(run, world.with_slips(0), ((), (("t", 1),))), invalid("course"))

    def test_a_pair_whose_trip_does_not_come_to_its_unit(self):
        for pair in [("t", 3), ("t", "k"), ("w", 1), ("v", 1), ("t", "a"), ("", "")]:
            self.check((), (pair,), False)
        self.check((("t", 1),), (("u", 1),), True)
        # Landing at 6 the parcels come too late for u.
        self.check((("t", 2),), (("u", 1),), False)
        # What is mislaid at the first trip does not come to the second one.
        self.check((), (("t", 1), ("u", 2)), True)
        self.check((), (("t", 1), ("u", 1)), False)

    def test_a_unit_behind_the_room(self):
        world = world_of(parcels_of(1, 2), [Trip("t", "a", "b", 1, 4, room=1)], slips=2)
        self.assertEqual(raised(run, world, ((), (("t", 2),))), invalid("course"))
        self.assertIsNone(raised(run, world, ((), (("t", 2), ("t", 1)))))

    def test_a_parcel_in_a_bag(self):
        world = world_of(parcels_of(1), [Trip("t", "a", "b", 1, 4)], [Closing("k", "a", "b", 0)], slips=1)
        self.assertEqual(raised(run, world, ((), (("t", 1),))), invalid("course"))
        self.assertEqual(run(world, ((), (("t", "k"),))).course, ((), (("t", "k"),)))

    def test_extras_of_0_and_of_trips_that_carry_nothing(self):
        events = run(self.world).events
        for late in [(("t", 0),), (("v", 3),), (("u", 0), ("v", 2), ("t", 0))]:
            told = run(self.world, (late, ()))
            self.assertEqual((told.events, told.course), (events, ((), ())))
        # u leaves at 5, and t lands at 6.
        self.assertEqual(run(self.world, ((("u", 1), ("t", 2)), ())).course, ((("t", 2),), ()))

    def test_the_one_form(self):
        told = run(self.world, ((("u", 1), ("v", 1), ("t", 1)), (("t", 2),)))
        self.assertEqual(told.course, ((("t", 1), ("u", 1)), (("t", 2),)))
        told = run(self.world, ((), (("u", 2), ("t", 1))))
        self.assertEqual(told.course, ((), (("t", 1), ("u", 2))))
        told = run(self.world, ((), (("t", 2), ("t", 1))))
        self.assertEqual(told.course, ((), (("t", 1), ("t", 2))))

    def test_late_goes_by_network_order_and_not_by_landing(self):
        trips = [Trip("z", "a", "b", 1, 9, late=1), Trip("y", "b", "a", 1, 9, late=1), Trip("x", "c", "a", 2, 3, late=1)]
        parcels = [Parcel(1, "2", "a", 0), Parcel(2, "1", "b", 0), Parcel(3, "1", "c", 0)]
        lanes = {"a": [("2", "b")], "b": [("1", "a")], "c": [("1", "a")]}
        told = run(world_of(parcels, trips, lanes=lanes), ((("x", 1), ("z", 1), ("y", 1)), ()))
        self.assertEqual(told.course[0], (("y", 1), ("z", 1), ("x", 1)))

    def test_lists_may_stand_for_the_two_parts(self):
        self.assertEqual(run(self.world, ([("t", 1)], [("t", 2)])).course, ((("t", 1),), (("t", 2),)))


class CoursesTest(unittest.TestCase):
    def test_the_example(self):
        told = [((), ()), ((("t1", 1),), ()), ((("t1", 2),), ())]
        self.assertEqual(list(courses(small_world())), told)
        self.assertEqual(count_courses(small_world()), 3)

    def test_it_is_a_generator(self):
        world = world_of(parcels_of(*range(1, 12)), [Trip("t", "a", "b", 1, 2, room=99), Trip("u", "b", "c", 3, 4)], slips=9)
        self.assertEqual(next(iter(courses(world))), ((), ()))

    def test_the_order_of_the_choices(self):
        trips = [Trip("t", "a", "b", 1, 2, late=1), Trip("u", "a", "b", 3, 5, late=1)]
        world = world_of(parcels_of(1) + parcels_of(2, taken=3), trips, slips=1)
        late_t, late_u = ("t", 1), ("u", 1)
        self.assertEqual(list(courses(world)), [
            ((), ()), ((late_u,), ()), ((), (("u", 2),)),
            ((late_t,), ()), ((late_t, late_u), ()), ((late_t,), (("u", 2),)),
            ((), (("t", 1),)), ((late_u,), (("t", 1),)),
        ])

    def test_slips_more_than_there_are_chances(self):
        world = world_of(parcels_of(1, 2), [Trip("t", "a", "b", 1, 2)], slips=99)
        self.assertEqual(len(list(courses(world))), 4)

    def test_many_small_worlds(self):
        """All of point 49, and point 50 after each tick of each course, against the plain simulation."""
        worlds = some_worlds(500, 49)
        several = 0
        for world in worlds:
            branches = plain_courses(world)
            told = list(courses(world))
            self.assertEqual(told, [branch.course() for branch in branches])
            self.assertEqual(told[0], ((), ()))
            self.assertEqual(len(set(told)), len(told))
            self.assertEqual(count_courses(world, most=10 ** 6), len(told))
            several += len(told) > 3
            for course, branch in zip(told, branches):
                self.check_run(world, course, branch)
        self.assertGreater(several, 30)

    def check_run(self, world, course, branch):
        told = run(world, course)
        self.assertEqual((told.events, told.course), (branch.events, course))
        self.assertEqual([told.standing(tick) for tick in world.ticks], branch.standings)
        ends = {event[2]: event[0] for event in told.events if event[1] == "out"}
        for parcel in world.parcels:
            self.assertEqual(told.delivered(parcel.ticket), ends.get(parcel.ticket))
        for tick in range(world.until + 2):
            self.check_standing(world, told, tick)

    def check_standing(self, world, told, tick):
        """Point 50 after the tick."""
        network, (used, places, lands) = world.network, told.standing(tick)
        own = dict(zip(world.units, places))
        self.assertLessEqual(used, world.slips)
        for parcel, land in zip(world.parcels, lands):
            place = told.position(parcel.ticket, tick)
            self.assertEqual(place == ("not", ""), tick < parcel.taken)
            self.assertNotIn(place[0], ["in", "gone"])
            if own[parcel.ticket][0] == "in":
                self.assertEqual(place, told.position(own[parcel.ticket][1], tick))
            if place[0] == "out":
                self.assertEqual(told.position(parcel.ticket, tick + 1), place)
                self.assertEqual(network.site(place[1]).land, land)
                self.assertEqual(world.sorting.lane(place[1], parcel.address), "")
            if place[0] in ("at", "lost", "out"):
                self.assertLessEqual(soonest(network, parcel.start, place[1], parcel.taken), tick)
        for trip in network.trips:
            self.assertLessEqual(list(own.values()).count(("on", trip.name)), trip.room)
        for closing in network.closings:
            self.assertLessEqual(list(own.values()).count(("in", closing.name)), closing.size)

    def test_all_pairs_that_could_be_a_course(self):
        """What run takes is what courses yields: each other pair of small parts is refused or has one of their forms."""
        for world in some_worlds(60, 46, 12):
            trips = world.network.trips
            if len(trips) > 2 or len(world.units) > 3:
                continue
            told = set(courses(world))
            pairs = list(itertools.product([trip.name for trip in trips], world.units))
            lates = itertools.product(*[range(trip.late + 1) for trip in trips])
            lates = [tuple(zip([trip.name for trip in trips], extras)) for extras in lates]
            found = set()
            for late, many in itertools.product(lates, range(3)):
                for lost in itertools.permutations(pairs, many):
                    if raised(run, world, (late, lost)) is None:
                        found.add(run(world, (late, lost)).course)
            self.assertEqual(found, told)


class CountTest(unittest.TestCase):
    def test_too_many_to_go_through(self):
        trips = [Trip(f"t{k}", "a", "b", 2 * k, 2 * k + 1, late=1) for k in range(40)]
        parcels = [Parcel(k + 1, "3", "a", 2 * k) for k in range(40)]
        self.assertEqual(count_courses(world_of(parcels, trips)), 2 ** 40)

    def test_the_limit_and_one_below_it(self):
        # After 1, 3, 5: 2, 4 and 8 standings.
        trips = [Trip(f"t{k}", "a", "b", 2 * k + 1, 99) for k in range(3)]
        parcels = [Parcel(k + 1, "3", "a", 2 * k) for k in range(3)]
        world = world_of(parcels, trips, slips=3)
        self.assertEqual(count_courses(world, most=8), 8)
        self.assertEqual(raised(count_courses, world, most=7), too_many(7, 5))
        self.assertEqual(raised(count_courses, world, most=4), too_many(4, 5))
        self.assertEqual(raised(count_courses, world, most=3), too_many(3, 3))
        self.assertEqual(raised(count_courses, world, most=1), too_many(1, 1))

    def test_the_limit_is_500_by_default(self):
        trips = [Trip("t", "a", "b", 1, 99, room=99)]
        for many, told in [(8, None), (9, too_many(500, 1))]:
            world = world_of(parcels_of(*range(1, many + 1)), trips, slips=99)
            self.assertEqual(raised(count_courses, world), told)

    def test_standings_and_not_courses_are_counted(self):
        site = site_of("a", searches=[3, 7])
        world = world_of(parcels_of(1), [Trip("t", "a", "b", 1, 2, late=3)], sites=[site])
        self.assertEqual(count_courses(world, most=2), 4)
        self.assertEqual(raised(count_courses, world, most=1), too_many(1, 2))

    def test_the_layers_of_small_worlds(self):
        for world in some_worlds(80, 54):
            layers = [{first_standing(world)}]
            for tick in world.ticks:
                layers.append({after for before in layers[-1] for _, after in steps(world, before, tick)})
            sizes = [len(layer) for layer in layers]
            self.assertIsNone(raised(count_courses, world, most=max(sizes)))
            for most in range(1, max(sizes)):
                number = next(number for number, size in enumerate(sizes) if size > most)
                self.assertEqual(raised(count_courses, world, most=most), too_many(most, world.ticks[number - 1]))


class TableTest(unittest.TestCase):
    def test_the_line_of_the_document(self):
        line = " " * 6 + "5 loaded  " + " " * 12 + "3 t1\n"
        self.assertEqual(events_table([(5, "loaded", 3, "t1")]), line)

    def test_the_empty_list(self):
        self.assertEqual(events_table([]), "")

    def test_parts_that_just_fill_their_column_and_longer_ones(self):
        self.assertEqual(events_table([(1234567, "abcdefgh", "abcdefghijkl", "abcdefghijkl")]),
                         "1234567 abcdefgh abcdefghijkl abcdefghijkl\n")
        self.assertEqual(events_table([(12345678, "abcdefghi", "abcdefghijklm", "abcdefghijklmn")]),
                         "12345678 abcdefghi abcdefghijklm abcdefghijklmn\n")
        self.assertEqual(events_table([(123456, "abcdefg", 12345678901, "")]), " 123456 abcdefg   12345678901 \n")

    def test_several_events(self):
        self.assertEqual(events_table(run(small_world()).events), (
            "      3 taken               1 s\n"
            "      5 loaded              1 t1\n"
            "      8 landed              1 n\n"
            "     20 out                 1 n\n"
        ))
        self.assertEqual(events_table(((1, "out", "k", "a"),)), "      1 out                 k a\n")


if __name__ == "__main__":
    unittest.main()
