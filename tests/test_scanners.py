"""Points 70 and 71: which sites tell all."""

import itertools
import random
import unittest

from everyparcel.network import Network, Site, Trip
from everyparcel.parcels import Parcel
from everyparcel.runs import count_courses, courses, run
from everyparcel.scanners import blind_pair, check_scanners, fewest_scanners, scanner_paper
from everyparcel.sorting import Sorting
from everyparcel.tables import Table
from everyparcel.worlds import World
from tests.brute import place_of, small_worlds
from tests.helpers import raised, unknown
from tests.test_layers import lone_world
from tests.test_runs import too_many
from tests.test_ticks import parcels_of, site_of, world_of
from tests.test_worlds import small_world

GOOD, LATE, LATER = ((), ()), ((("t1", 1),), ()), ((("t1", 2),), ())


def fork_world():
    """Two parcels go different ways, each by a trip that may be late: two scanners are needed."""
    sites = [Site("a", "h", "x", "1"), Site("b", "h", "x", "2"), Site("c", "h", "x", "3"), Site("d", "h", "x", "4")]
    trips = [Trip("t", "a", "b", 1, 4, late=1), Trip("u", "a", "c", 1, 4, late=1)]
    sorting = Sorting({"a": Table([("2", "b"), ("3", "c")])})
    return World(Network(sites, trips, []), sorting, [Parcel(1, "2", "a", 0), Parcel(2, "3", "a", 0)])


class BlindPairTest(unittest.TestCase):
    def test_no_site(self):
        self.assertEqual(blind_pair(small_world(), []), (GOOD, LATE))
        self.assertIsNone(blind_pair(world_of(parcels_of(1), [Trip("t", "a", "b", 1, 4)]), []))

    def test_sites_that_tell_all_and_that_do_not(self):
        self.assertEqual(blind_pair(small_world(), ["s"]), (GOOD, LATE))
        self.assertIsNone(blind_pair(small_world(), ["n"]))
        self.assertIsNone(blind_pair(small_world(), ("s", "n")))

    def test_one_site_twice_and_any_order(self):
        self.assertIsNone(blind_pair(small_world(), ["n", "n"]))
        self.assertEqual(blind_pair(small_world(), ["s", "s"]), (GOOD, LATE))
        self.assertIsNone(blind_pair(small_world(), ["n", "s"]))

    def test_unknown_sites(self):
        self.assertEqual(raised(blind_pair, small_world(), ["w"]), unknown("w"))
        self.assertEqual(raised(blind_pair, small_world(), ["w", "n"]), unknown("w"))
        self.assertEqual(raised(blind_pair, small_world(), ["n", "w", "v"]), unknown("w"))
        self.assertEqual(raised(blind_pair, small_world(), ["n", "t1"]), unknown("t1"))

    def test_a_world_with_one_course(self):
        for world in [lone_world(), world_of([], [Trip("t", "a", "b", 1, 4, late=3)], slips=2)]:
            self.assertIsNone(blind_pair(world, []))
            self.assertEqual(fewest_scanners(world), [])
            self.assertEqual(scanner_paper(world), ([], []))
            self.assertIs(check_scanners(world, [], []), True)

    def test_too_many_at_the_limit_and_one_below_it(self):
        world = small_world()
        for call in [lambda most: blind_pair(world, [], most=most), lambda most: fewest_scanners(world, most=most),
                     lambda most: scanner_paper(world, most=most),
                     lambda most: check_scanners(world, ["n"], [(GOOD, LATE)], most=most),
                     lambda most: check_scanners(world, ["w"], [(GOOD, GOOD)], most=most)]:
            self.assertIsNone(raised(call, 3))
            self.assertEqual(raised(call, 2), too_many(2, None))
            self.assertEqual(raised(call, 1), too_many(1, None))
        self.assertEqual(raised(blind_pair, world, ["w"], most=1), unknown("w"))

    def test_the_limit_is_500_by_default_and_goes_by_courses(self):
        for late, told in [(499, None), (500, too_many(500, None))]:
            world = world_of(parcels_of(1), [Trip("t", "a", "b", 1, 4, late=late)])
            self.assertEqual(count_courses(world), late + 1)
            for call in [lambda: blind_pair(world, ["b"]), lambda: fewest_scanners(world), lambda: scanner_paper(world),
                         lambda: check_scanners(world, None, [])]:
                self.assertEqual(raised(call), told)

    def test_the_earliest_first_course_and_for_it_the_earliest_second_one(self):
        world = fork_world()
        late_t, late_u, both = ((("t", 1),), ()), ((("u", 1),), ()), ((("t", 1), ("u", 1)), ())
        self.assertEqual(list(courses(world)), [GOOD, late_u, late_t, both])
        self.assertEqual(blind_pair(world, ["b"]), (GOOD, late_u))
        self.assertEqual(blind_pair(world, ["c"]), (GOOD, late_t))
        self.assertEqual(blind_pair(world, []), (GOOD, late_u))
        self.assertIsNone(blind_pair(world, ["b", "c"]))

    def test_a_first_course_that_is_not_the_first_of_all(self):
        # Landing in time brings the parcel on to c, where the next trip may be late; else it stays at b.
        trips = [Trip("t", "a", "b", 1, 4, late=1), Trip("u", "b", "c", 4, 6, late=1)]
        world = world_of(parcels_of(1), trips)
        some = list(courses(world))
        self.assertEqual(some, [GOOD, ((("u", 1),), ()), ((("t", 1),), ())])
        self.assertEqual(blind_pair(world, ["b"]), (some[0], some[1]))
        self.assertIsNone(blind_pair(world, ["c"]))
        # Only the first course lands early; what is found or late lands at the same tick by three other ways.
        trips = [Trip("s", "d", "a", 0, 1, late=1), Trip("t", "a", "b", 1, 6), Trip("u", "a", "b", 2, 8),
                 Trip("v", "a", "b", 4, 8)]
        lanes = {"d": [("3", "a")], "a": [("3", "b")]}
        world = world_of([Parcel(1, "3", "d", 0)], trips, lanes=lanes, sites=[site_of("a", searches=[3])], slips=1)
        some = list(courses(world))
        late, lost = ((("s", 1),), ()), ((), (("t", 1),))
        self.assertEqual([course for course in some if course in (GOOD, late, lost)], [GOOD, lost, late])
        self.assertEqual(blind_pair(world, ["b"]), (lost, late))
        self.assertEqual(blind_pair(world, ["a", "b"]), (late, ((("s", 1),), (("u", 1),))))

    def test_landings_in_another_order(self):
        # Both trips carry one parcel and land at the same tick: which parcel rides on which turns the events about.
        trips = [Trip("t", "a", "b", 1, 6, room=1), Trip("u", "a", "b", 3, 6, room=1)]
        world = world_of(parcels_of(1, 2), trips, sites=[site_of("a", searches=[2])], slips=1)
        some = list(courses(world))
        self.assertEqual(some[0], GOOD)
        self.assertEqual([event[2] for event in run(world, some[0]).events if event[1] == "landed"], [1, 2])
        turned = ((), (("t", 1),))
        self.assertIn(turned, some)
        self.assertEqual([event[2] for event in run(world, turned).events if event[1] == "landed"], [2, 1])
        self.assertEqual(blind_pair(world, ["a", "b", "c", "d"]), (GOOD, turned))


class FewestTest(unittest.TestCase):
    def test_two_lists_of_the_least_number(self):
        # Both b and c tell when the trip to b landed.
        trips = [Trip("t", "a", "b", 1, 4, late=1), Trip("u", "b", "c", 4, 6), Trip("v", "b", "c", 5, 7)]
        world = world_of(parcels_of(1), trips)
        self.assertEqual([blind_pair(world, [name]) is None for name in "abcd"], [False, True, True, False])
        self.assertEqual(fewest_scanners(world), ["b"])
        self.assertEqual(scanner_paper(world)[0], ["b"])
        self.assertIs(check_scanners(world, ["c"], scanner_paper(world)[1]), True)

    def test_several_sites(self):
        self.assertEqual(fewest_scanners(fork_world()), ["b", "c"])
        sites, pairs = scanner_paper(fork_world())
        self.assertEqual(sites, ["b", "c"])
        self.assertIs(check_scanners(fork_world(), sites, pairs), True)

    def test_no_list_at_all(self):
        world = two_ways_world()
        self.assertEqual(list(courses(world)), [GOOD, ((), (("t", 1),))])
        self.assertIsNone(fewest_scanners(world))
        self.assertEqual(scanner_paper(world), (None, [(GOOD, ((), (("t", 1),)))]))
        self.assertIs(check_scanners(world, *scanner_paper(world)), True)


def two_ways_world():
    """What the first trip mislays is found in time for the second one, which lands at the same tick."""
    trips = [Trip("t", "a", "b", 1, 6), Trip("u", "a", "b", 3, 6)]
    return world_of(parcels_of(1), trips, sites=[site_of("a", searches=[2])], slips=1)


class CheckTest(unittest.TestCase):
    def setUp(self):
        self.world = fork_world()
        self.sites, self.pairs = scanner_paper(self.world)
        self.late_t, self.late_u, self.both = ((("t", 1),), ()), ((("u", 1),), ()), ((("t", 1), ("u", 1)), ())

    def check(self, sites, pairs, told, world=None):
        self.assertIs(check_scanners(self.world if world is None else world, sites, pairs), told)

    def test_the_paper(self):
        self.check(self.sites, self.pairs, True)
        self.check(tuple(self.sites), self.pairs, True)

    def test_pairs_turned(self):
        self.check(self.sites, [(other, one) for one, other in self.pairs], True)
        self.check(self.sites, self.pairs[::-1], True)
        self.check(self.sites, self.pairs + self.pairs, True)

    def test_courses_that_are_not_in_their_one_form(self):
        pairs = [(((("u", 0), ("t", 0)), ()), self.late_t), (((("t", 0),), ()), ((("u", 1), ("t", 0)), ()))]
        self.check(self.sites, pairs, True)
        self.check(self.sites, pairs[:1], False)
        self.check(self.sites, pairs[1:], False)

    def test_a_pair_of_like_positions(self):
        self.check(self.sites, self.pairs + [(GOOD, GOOD)], False)
        self.check(self.sites, self.pairs + [(GOOD, ((("t", 0),), ()))], False)
        self.check(self.sites, self.pairs + [(self.late_t, ((("u", 0), ("t", 1)), ()))], False)

    def test_a_pair_that_run_refuses(self):
        for course in [((("t", 2),), ()), ((("w", 0),), ()), ((), (("t", 1),)), ((("t", 0), ("t", 0)), ())]:
            self.check(self.sites, self.pairs + [(GOOD, course)], False)
            self.check(self.sites, self.pairs + [(course, GOOD)], False)
            self.check(None, [(course, GOOD)], False)

    def test_a_pair_left_out_that_is_needed_and_one_that_is_not(self):
        # One scanner must not do: neither at a, b, c nor at d.
        self.assertEqual([pair for pair in self.pairs], [(GOOD, self.late_u), (GOOD, self.late_t)])
        self.check(self.sites, self.pairs[:1], False)
        self.check(self.sites, self.pairs[1:], False)
        self.check(self.sites, [], False)
        self.check(self.sites, self.pairs + [(GOOD, self.both)], True)
        self.check(self.sites, [(self.late_t, self.both), (self.late_u, self.both)], True)
        self.check(self.sites, [(GOOD, self.both), (self.late_t, self.late_u)], False)

    def test_sites_not_ascending_doubled_and_unknown(self):
        self.check(["c", "b"], self.pairs, False)
        self.check(["b", "b"], self.pairs, False)
        self.check(["b", "b", "c"], self.pairs, False)
        self.check(["b", "w"], self.pairs, False)
        self.check(["w"], self.pairs, False)
        self.check(["b", "c", "w"], self.pairs, False)

    def test_one_site_more_and_one_less(self):
        self.check(["b"], self.pairs, False)
        self.check([], self.pairs, False)
        self.check(["a", "b", "c"], self.pairs, False)
        self.check(["a", "b", "c", "d"], self.pairs, False)

    def test_another_list_of_the_same_length(self):
        self.check(["a", "b"], self.pairs, False)
        self.check(["c", "d"], self.pairs, False)
        world = world_of(parcels_of(1), [Trip("t", "a", "b", 1, 4, late=1), Trip("u", "b", "c", 4, 6),
                                         Trip("v", "b", "c", 5, 7)])
        pairs = [(GOOD, ((("t", 1),), ()))]
        for sites, told in [(["b"], True), (["c"], True), (["a"], False), (["d"], False), (["b", "c"], False)]:
            self.check(sites, pairs, told, world)

    def test_none(self):
        self.check(None, self.pairs, False)
        self.check(None, [], False)
        self.check(None, [], False, two_ways_world())
        paper = scanner_paper(two_ways_world())
        self.check(None, paper[1], True, two_ways_world())
        self.check([], paper[1], False, two_ways_world())
        self.check(["a", "b", "c", "d"], paper[1], False, two_ways_world())

    def test_what_is_passed_stays(self):
        sites, pairs = list(self.sites), list(self.pairs)
        self.check(sites, pairs, True)
        blind_pair(self.world, sites)
        self.assertEqual((sites, pairs), (self.sites, self.pairs))
        fewest_scanners(self.world).clear()
        scanner_paper(self.world)[1].clear()
        self.assertEqual(scanner_paper(self.world), (self.sites, self.pairs))


class Plain:
    """A course with its positions and its landings."""

    def __init__(self, world, branch):
        self.course = branch.course()
        self.landings = {event for event in branch.events if event[1] == "landed"}
        self.track = [place_of(world, branch, ticket, tick) for tick in world.ticks for ticket in world.tickets]

    def scans(self, sites):
        return {event for event in self.landings if event[3] in sites}


def plain_pair(plains, sites):
    for one, other in itertools.combinations(plains, 2):
        if one.track != other.track and one.scans(sites) == other.scans(sites):
            return (one.course, other.course)
    return None


class SmallWorldsTest(unittest.TestCase):
    def test_small_worlds(self):
        chance = random.Random(70)
        lengths = {}
        for world, branches in small_worlds(120, 70, least=4, most=16):
            plains = [Plain(world, branch) for branch in branches]
            names = [site.name for site in world.network.sites]
            told = None
            for size in range(len(names) + 1):
                for sites in itertools.combinations(names, size):
                    pair = plain_pair(plains, sites)
                    self.assertEqual(blind_pair(world, sites), pair)
                    told = list(sites) if told is None and pair is None else told
            self.assertEqual(fewest_scanners(world), told)
            sites, pairs = scanner_paper(world)
            self.assertEqual(sites, told)
            self.assertIs(check_scanners(world, sites, pairs), True)
            for number in range(len(pairs)):
                fewer = pairs[:number] + pairs[number + 1:]
                self.assertIs(check_scanners(world, sites, fewer), self.is_shown(names, plains, sites, fewer))
            other = sorted(chance.sample(names, chance.randint(0, len(names))))
            self.assertIs(check_scanners(world, other, pairs), self.is_shown(names, plains, other, pairs))
            lengths[None if told is None else len(told)] = lengths.get(None if told is None else len(told), 0) + 1
        self.assertGreater(min(lengths.get(length, 0) for length in (0, 1, 2)), 9, lengths)

    def is_shown(self, names, plains, sites, pairs):
        """Point 71, where each pair is one of courses with different positions."""
        of_course = {plain.course: plain for plain in plains}
        if sites is None:
            fewer = [names]
        elif plain_pair(plains, sites) is not None:
            return False
        else:
            fewer = [some for size in range(len(sites)) for some in itertools.combinations(names, size)]
        return all(any(of_course[one].scans(some) == of_course[other].scans(some) for one, other in pairs)
                   for some in fewer)


if __name__ == "__main__":
    unittest.main()
