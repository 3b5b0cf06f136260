"""Point 48: standings, and all that can happen at a tick."""

import itertools
import unittest

from everyparcel.network import Closing, Site, Trip
from everyparcel.parcels import Parcel
from everyparcel.runs import courses, run
from everyparcel.standings import MOST, first_standing, position, steps
from tests.helpers import raised, unknown
from tests.plain import Branch, after_tick, some_worlds
from tests.test_ticks import parcels_of, site_of, world_of

AT_A, LOST, NOT = ("at", "a"), ("lost", "a"), ("not", "")


def on(trip):
    return ("on", trip)


class FirstTest(unittest.TestCase):
    def test_nothing_is_taken_in(self):
        sites = [site_of("b", "y"), site_of("c", "z")]
        parcels = [Parcel(10, "3", "b", 0), Parcel(9, "3", "a", 0), Parcel(11, "3", "c", 4)]
        world = world_of(parcels, closings=[Closing("k", "a", "b", 3), Closing("l", "a", "b", 1)], sites=sites)
        self.assertEqual(first_standing(world), (0, (NOT,) * 5, ("x", "y", "z")))

    def test_without_parcels(self):
        self.assertEqual(first_standing(world_of([])), (0, (), ()))
        self.assertEqual(first_standing(world_of([], closings=[Closing("k", "a", "b", 3)])), (0, (NOT,), ()))

    def test_the_constant(self):
        self.assertEqual(MOST, 500)


class PositionTest(unittest.TestCase):
    def test_the_place_of_the_outermost_unit(self):
        world = world_of(parcels_of(1, 2, 3), closings=[Closing("k", "a", "b", 3), Closing("l", "a", "b", 4)])
        standing = (0, (("in", "k"), ("in", "l"), ("out", "c"), ("in", "l"), ("on", "t")), ("x", "x", "x"))
        told = {1: ("on", "t"), 2: ("on", "t"), 3: ("out", "c"), "k": ("on", "t"), "l": ("on", "t")}
        self.assertEqual({unit: position(world, standing, unit) for unit in world.units}, told)
        gone = (0, (NOT, NOT, NOT, ("gone", ""), NOT), ("x", "x", "x"))
        self.assertEqual([position(world, gone, unit) for unit in (1, "k", "l")], [NOT, ("gone", ""), NOT])

    def test_units_that_the_world_does_not_have(self):
        world = world_of(parcels_of(1, 2), [Trip("t", "a", "b", 1, 2)], closings=[Closing("k", "a", "b", 3)])
        for unit in [3, 0, "l", "t", "a", "1", ""]:
            self.assertEqual(raised(position, world, first_standing(world), unit), unknown(unit))


class StepsTest(unittest.TestCase):
    def places_after(self, world, standing, tick):
        return [after[1] for events, after in steps(world, standing, tick)]

    def test_a_tick_that_is_not_one_of_the_world(self):
        world = world_of(parcels_of(1, taken=3), [Trip("t", "a", "b", 5, 8)])
        for tick in [0, 2, 4, 6, 9, 1000]:
            standing = run(world).standing(tick)
            self.assertEqual(steps(world, standing, tick), [((), standing)])

    def test_a_tick_at_which_nothing_happens(self):
        world = world_of(parcels_of(1, taken=9), [Trip("t", "a", "b", 5, 8)], sites=[site_of("c", rounds=[2])])
        for tick in [2, 5, 8]:
            self.assertEqual(steps(world, first_standing(world), tick), [((), first_standing(world))])

    def test_landing_comes_before_not_landing(self):
        trips = [Trip("u", "a", "b", 1, 4, late=1), Trip("t", "a", "b", 2, 4, late=1)]
        parcels = parcels_of(2) + parcels_of(1, taken=2)
        world = world_of(parcels, trips)
        standing = run(world).standing(3)
        self.assertEqual(standing[1], (on("t"), on("u")))
        at_b = ("at", "b")
        self.assertEqual(self.places_after(world, standing, 4),
                         [(at_b, at_b), (on("t"), at_b), (at_b, on("u")), (on("t"), on("u"))])
        events = [told for told, _ in steps(world, standing, 4)]
        first, second = (4, "landed", 2, "b"), (4, "landed", 1, "b")
        self.assertEqual(events, [(first, second), (first,), (second,), ()])

    def test_loading_comes_before_mislaying(self):
        world = world_of(parcels_of(2, 1), [Trip("t", "a", "b", 1, 2)], slips=2)
        standing = run(world).standing(0)
        self.assertEqual(self.places_after(world, standing, 1),
                         [(on("t"), on("t")), (on("t"), LOST), (LOST, on("t")), (LOST, LOST)])
        self.assertEqual([after[0] for _, after in steps(world, standing, 1)], [0, 1, 1, 2])

    def test_slips_that_run_out(self):
        world = world_of(parcels_of(1, 2, 3), [Trip("t", "a", "b", 1, 2)], slips=1)
        standing = run(world).standing(0)
        ride = on("t")
        self.assertEqual(self.places_after(world, standing, 1),
                         [(ride, ride, ride), (ride, ride, LOST), (ride, LOST, ride), (LOST, ride, ride)])
        used = (1,) + standing[1:]
        self.assertEqual(self.places_after(world, used, 1), [(ride, ride, ride)])

    def test_what_is_mislaid_leaves_its_room(self):
        world = world_of(parcels_of(1, 2), [Trip("t", "a", "b", 1, 2, room=1)], slips=2)
        self.assertEqual(self.places_after(world, run(world).standing(0), 1),
                         [(on("t"), AT_A), (LOST, on("t")), (LOST, LOST)])

    def test_landing_is_chosen_before_loading(self):
        trips = [Trip("t", "a", "b", 1, 4, late=1), Trip("u", "b", "c", 4, 6)]
        world = world_of(parcels_of(1) + [Parcel(2, "3", "b", 3)], trips, slips=1)
        standing = run(world).standing(3)
        lost = ("lost", "b")
        self.assertEqual(self.places_after(world, standing, 4),
                         [(on("u"), on("u")), (on("u"), lost), (lost, on("u")), (on("t"), on("u")), (on("t"), lost)])

    def test_twelve_choices_at_one_tick(self):
        world = world_of(parcels_of(*range(1, 13)), [Trip("t", "a", "b", 1, 2, room=99)], slips=12)
        places = self.places_after(world, run(world).standing(0), 1)
        self.assertEqual(places, list(itertools.product([on("t"), LOST], repeat=12)))

    def test_the_kinds_of_values(self):
        world = world_of(parcels_of(1), [Trip("t", "a", "b", 0, 2)], [Closing("k", "a", "b", 0)], slips=1)
        told = steps(world, first_standing(world), 0)
        self.assertEqual(told, [
            (((0, "taken", 1, "a"), (0, "packed", 1, "k"), (0, "loaded", "k", "t")),
             (0, (("in", "k"), ("on", "t")), ("x",))),
            (((0, "taken", 1, "a"), (0, "packed", 1, "k"), (0, "mislaid", "k", "a")),
             (1, (("in", "k"), ("lost", "a")), ("x",))),
        ])
        self.assertIsInstance(told, list)
        self.assertTrue(all(isinstance(part, tuple) for pair in told for part in (pair, *pair)))

    def test_another_list_each_time(self):
        world = world_of(parcels_of(1))
        before = steps(world, first_standing(world), 0)
        steps(world, first_standing(world), 0).clear()
        self.assertEqual(steps(world, first_standing(world), 0), before)

    def test_cleared_lands(self):
        site = Site("b", "h", "y", "2", sittings=[4])
        world = world_of(parcels_of(1), [Trip("t", "a", "b", 1, 4, late=1)], sites=[site])
        told = steps(world, run(world).standing(1), 4)
        self.assertEqual([after[2] for _, after in told], [("y",), ("x",)])

    def test_against_a_plain_simulation(self):
        """After each course of the plain simulation, each step leads to the same events and standings."""
        many = 0
        for world in some_worlds(250, 48):
            branches = [Branch(world)]
            for tick in world.ticks:
                after = []
                for branch in branches:
                    told = steps(world, branch.standing(), tick)
                    already = len(branch.events)
                    others = after_tick(branch, tick)
                    self.assertEqual(told, [(tuple(one.events[already:]), one.standing()) for one in others])
                    many += len(told) > 1
                    after.extend(others)
                branches = after
            self.assertEqual([branch.course() for branch in branches], list(courses(world)))
        self.assertGreater(many, 100)


if __name__ == "__main__":
    unittest.main()
