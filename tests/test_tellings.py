"""Points 62, 67 and 68: places, Telling, and what more knowledge does."""

import random
import unittest

from everyparcel.books import Book
from everyparcel.layers import answer
from everyparcel.network import Closing, Network, Site, Trip
from everyparcel.parcels import Parcel
from everyparcel.runs import count_courses, run
from everyparcel.sorting import Sorting
from everyparcel.tellings import Telling, places
from everyparcel.truths import truth
from everyparcel.worlds import World
from tests.brute import fitting, is_overdue, made_book, order_of, place_of, places_of, small_worlds
from tests.helpers import raised, unknown
from tests.test_layers import growing_world, lone_world
from tests.test_runs import too_many
from tests.test_ticks import parcels_of, site_of, world_of
from tests.test_worlds import small_world

CONTRADICTION = ("Contradiction", {})


class PlacesTest(unittest.TestCase):
    def test_before_at_and_after_all_that_is_known(self):
        world = small_world()
        for book, nine in [(Book(), [("at", "n"), ("on", "t1")]), (Book({}, [(8, "landed", 1, "n")]), [("at", "n")]),
                           (Book({}, [(8, "aboard", 1, "t1")]), [("at", "n"), ("on", "t1")])]:
            for tick, told in [(-1, [("not", "")]), (0, [("not", "")]), (3, [("at", "s")]), (7, [("on", "t1")]),
                               (9, nine), (10, [("at", "n")]), (20, [("out", "n")]), (10 ** 6, [("out", "n")])]:
                self.assertEqual(places(world, book, 1, tick), told)

    def test_ascending_without_duplicates(self):
        trips = [Trip("t", "a", "b", 1, 2, late=1, room=1), Trip("u", "a", "b", 1, 2, late=1)]
        world = world_of(parcels_of(1, 2), trips, slips=1)
        self.assertEqual(places(world, Book(), 2, 1), [("lost", "a"), ("on", "t"), ("on", "u")])
        self.assertEqual(places(world, Book(), 2, 2), [("at", "b"), ("lost", "a"), ("on", "t"), ("on", "u")])

    def test_a_parcel_in_a_bag_is_where_the_outermost_bag_is(self):
        closings = [Closing("k", "a", "c", 1), Closing("m", "a", "b", 2)]
        world = world_of(parcels_of(1), [Trip("t", "a", "b", 3, 5)], closings)
        self.assertEqual(run(world).standing(3)[1][0], ("in", "k"))
        for unit in [1, "k", "m"]:
            self.assertEqual(places(world, Book(), unit, 3), [("on", "t")])
            self.assertEqual(places(world, Book({}, [(3, "aboard", 1, "t")]), unit, 4), [("on", "t")])
        self.assertEqual(places(world, Book(), "m", 5), [("gone", "")])

    def test_unknown_units(self):
        world = world_of(parcels_of(1), closings=[Closing("k", "a", "b", 3)])
        for unit in [2, 0, "a", "l"]:
            for tick in [-1, 0, 9]:
                self.assertEqual(raised(places, world, Book(), unit, tick), unknown(unit))
                self.assertEqual(raised(Telling(world, Book()).places, unit, tick), unknown(unit))
                self.assertEqual(raised(Telling(world, Book()).known, unit, tick), unknown(unit))

    def test_contradiction(self):
        world = small_world()
        for book in [Book({}, [(9, "out", 1, "n")]), Book({}, [(8, "landed", 1, "n"), (9, "landed", 1, "n")]),
                     Book({}, [(4, "taken", 1, "s")])]:
            self.assertEqual(raised(places, world, book, 1, 3), CONTRADICTION)
            self.assertEqual(raised(Telling, world, book), CONTRADICTION)
            self.assertEqual(raised(places, world, book, 2, 3), unknown(2))

    def test_too_many_at_the_limit_and_one_below_it(self):
        world = growing_world()
        self.assertEqual(places(world, Book(), 1, 99, most=8), [("at", "b"), ("lost", "a")])
        self.assertEqual(Telling(world, Book(), most=8).course_count, 8)
        for most, tick in [(7, 5), (3, 3), (1, 1)]:
            self.assertEqual(raised(places, world, Book(), 1, 0, most=most), too_many(most, tick))
            self.assertEqual(raised(Telling, world, Book(), most=most), too_many(most, tick))
        # The wish that asks for a place would make the layers smaller, but the limit is that without it.
        self.assertIsNone(raised(answer, world, Book(), ("is", 1, 1, ("on", "t0")), most=4))
        self.assertEqual(raised(places, world, Book(), 1, 1, most=4), too_many(4, 5))

    def test_the_limit_is_500_by_default(self):
        trips = [Trip("t", "a", "b", 1, 99, room=99)]
        for many, told in [(8, None), (9, too_many(500, 1))]:
            world = world_of(parcels_of(*range(1, many + 1)), trips, slips=99)
            self.assertEqual(raised(places, world, Book(), 1, 1), told)
            self.assertEqual(raised(Telling, world, Book()), told)

    def test_a_world_without_parcels(self):
        told = Telling(lone_world(), Book())
        self.assertEqual((told.course_count, told.possible(), told.sure()), (1, [], []))
        world = world_of([], [Trip("t", "a", "b", 1, 2, late=5)], [Closing("k", "a", "b", 3)])
        self.assertEqual(places(world, Book(), "k", 3), [("not", "")])

    def test_places_and_answers(self):
        """A place is told if and only if some fitting course meets the wish for it."""
        chance = random.Random(62)
        for world, branches in small_worlds(60, 62, least=3):
            book = made_book(chance, world, branches)
            if not fitting(world, branches, book):
                continue
            for unit in world.units:
                for tick in chance.sample(range(16), 3):
                    told = places(world, book, unit, tick)
                    for place in {place_of(world, branch, unit, tick) for branch in branches} | {("in", "t0")}:
                        word = answer(world, book, ("is", unit, tick, place))[0]
                        self.assertEqual(word == "yes", place in told)


class TellingTest(unittest.TestCase):
    def test_the_small_world(self):
        told = Telling(small_world(), Book())
        self.assertEqual(told.course_count, 3)
        self.assertEqual(told.sure(), [(3, "taken", 1, "s"), (5, "loaded", 1, "t1"), (20, "out", 1, "n")])
        self.assertEqual(told.possible(), [
            (3, "taken", 1, "s"), (5, "loaded", 1, "t1"), (8, "landed", 1, "n"), (9, "landed", 1, "n"),
            (10, "landed", 1, "n"), (20, "out", 1, "n")])
        self.assertEqual(told.places(1, 9), [("at", "n"), ("on", "t1")])
        self.assertEqual([told.known(1, tick) for tick in (0, 5, 8, 9, 10)],
                         [("not", ""), ("on", "t1"), None, None, ("at", "n")])

    def test_events_that_are_never_scanned(self):
        parcels = parcels_of(1, 2, days=0)
        world = world_of(parcels, [Trip("t", "a", "b", 1, 2)], slips=1, wait=0)
        told = Telling(world, Book({}, [(1, "loaded", 2, "t")]))
        claims = [(23, "claimed", 1, "a"), (23, "claimed", 2, "a")]
        self.assertEqual(told.sure(), [(0, "taken", 1, "a"), (0, "taken", 2, "a"), (1, "loaded", 2, "t"),
                                       (2, "landed", 2, "b")] + claims)
        self.assertEqual(told.possible(), [
            (0, "taken", 1, "a"), (0, "taken", 2, "a"), (1, "loaded", 1, "t"), (1, "loaded", 2, "t"),
            (1, "mislaid", 1, "a"), (2, "landed", 1, "b"), (2, "landed", 2, "b")] + claims)

    def test_the_order_goes_by_tick_kind_where_and_the_unit_as_a_string(self):
        trips = [Trip("t", "a", "b", 1, 9), Trip("u", "b", "c", 1, 9)]
        parcels = [Parcel(2, "3", "a", 1), Parcel(10, "3", "a", 1), Parcel(1, "3", "b", 1)]
        world = world_of(parcels, trips, [Closing("k", "a", "b", 1, size=1)])
        told = [(1, "loaded", 10, "t"), (1, "loaded", "k", "t"), (1, "loaded", 1, "u"), (1, "packed", 2, "k"),
                (1, "taken", 10, "a"), (1, "taken", 2, "a"), (1, "taken", 1, "b")]
        self.assertEqual(Telling(world, Book()).sure()[:7], told)
        self.assertEqual(Telling(world, Book()).possible()[:7], told)

    def test_too_many_courses_to_go_through(self):
        trips = [Trip(f"t{k}", "a", "b", 2 * k, 2 * k + 1, late=1) for k in range(40)]
        world = world_of([Parcel(k + 1, "3", "a", 2 * k) for k in range(40)], trips)
        self.assertEqual(Telling(world, Book()).course_count, count_courses(world))
        told = Telling(world, Book({}, [(2, "landed", 1, "b"), (3, "landed", 2, "b")]))
        self.assertEqual(told.course_count, 2 ** 38)
        self.assertEqual((told.known(1, 1), told.known(2, 3), told.known(3, 5)), (("on", "t0"), ("at", "b"), None))
        self.assertEqual((len(told.sure()), len(told.possible())), (2 * 40 + 2, 2 * 40 + 2 * 38 + 2))

    def test_a_change_of_the_book_has_no_effect(self):
        book = Book({}, [(8, "landed", 1, "n")])
        told = Telling(small_world(), book)
        book.strike((8, "landed", 1, "n"))
        book.note((9, "landed", 1, "n"))
        book.hear("h", 99)
        self.assertEqual((told.course_count, told.places(1, 8)), (1, [("at", "n")]))
        self.assertIn((8, "landed", 1, "n"), told.sure())
        self.assertEqual(Telling(small_world(), book).places(1, 8), [("on", "t1")])

    def test_the_lists_are_new(self):
        told = Telling(small_world(), Book())
        for call in [told.possible, told.sure, lambda: told.places(1, 9)]:
            before = list(call())
            call().clear()
            call().append("x")
            self.assertEqual(call(), before)

    def test_small_worlds(self):
        """All of point 67, and places, against a plain reading of all courses."""
        chance = random.Random(67)
        several = wrong = 0
        for world, branches in small_worlds(220, 67, least=3):
            for _ in range(3):
                book = made_book(chance, world, branches)
                some = fitting(world, branches, book)
                if not some:
                    wrong += 1
                    self.assertEqual(raised(Telling, world, book), CONTRADICTION)
                    continue
                several += 1 < len(some) < len(branches)
                self.check(world, book, some)
        self.assertGreater(min(several, wrong), 50)

    def check(self, world, book, some):
        told = Telling(world, book)
        self.assertEqual(told.course_count, len(some))
        events = sorted({event for branch in some for event in branch.events}, key=order_of)
        self.assertEqual(told.possible(), events)
        self.assertEqual(told.sure(), [event for event in events if all(event in branch.events for branch in some)])
        for unit in world.units:
            for tick in [-1, 0, 1, 4, 7, 11, 15, 99]:
                found = places_of(world, some, unit, tick)
                self.assertEqual(told.places(unit, tick), found)
                self.assertEqual(told.known(unit, tick), found[0] if len(found) == 1 else None)
            self.assertEqual(places(world, book, unit, 6), places_of(world, some, unit, 6))


class KnowingMoreTest(unittest.TestCase):
    """Point 68."""

    def check_less(self, world, before, after):
        """Whether the second telling tells all that the first one tells, and no place more."""
        for unit in world.units:
            for tick in range(16):
                self.assertLessEqual(set(after.places(unit, tick)), set(before.places(unit, tick)))
        self.assertLessEqual(set(before.sure()), set(after.sure()))
        self.assertLessEqual(set(after.possible()), set(before.possible()))

    def test_books_that_grow_step_by_step(self):
        chance = random.Random(68)
        steps = 0
        for world, branches in small_worlds(60, 68, least=3):
            branch = chance.choice(branches)
            failed = [event for event in branch.events if chance.random() < 0.3]
            whole = truth(world, run(world, branch.course()), 15, failed=failed)
            book = Book()
            told = Telling(world, book)
            for deed in self.deeds(chance, whole):
                more = book + deed
                if [record for record in more.valid if record not in book and is_overdue(world, book, record)]:
                    continue
                if not fitting(world, branches, more):
                    continue
                after = Telling(world, more)
                self.check_less(world, told, after)
                steps += 1
                book, told = more, after
        self.assertGreater(steps, 400)

    def deeds(self, chance, whole):
        """The records and the heard ticks one by one, in any order."""
        found = [Book({}, [record]) for record in whole.records]
        found += [Book({house: tick}) for house in whole.heard for tick in (2, 5, 9, 15)]
        found += [Book({"h": 4, "k": 3}, whole.records[:2])]
        chance.shuffle(found)
        return found

    def test_an_overdue_record_may_add_a_place(self):
        world = world_of(parcels_of(1), [Trip("t", "a", "b", 1, 4, late=1)], sites=[site_of("b", lag=0)])
        book = Book({"h": 4})
        self.assertTrue(is_overdue(world, book, (4, "landed", 1, "b")))
        self.assertEqual(places(world, book, 1, 4), [("on", "t")])
        book.note((4, "landed", 1, "b"))
        self.assertEqual(places(world, book, 1, 4), [("at", "b")])

    def test_striking_a_record_that_each_course_has(self):
        chance = random.Random(69)
        told = 0
        for world, branches in small_worlds(60, 69, least=3):
            book = made_book(chance, world, branches)
            for record in book.valid:
                less = book + Book({}, [], [record])
                some = fitting(world, branches, less)
                if some and all(record in branch.events for branch in some):
                    one, other = Telling(world, book), Telling(world, less)
                    self.check_less(world, one, other)
                    self.check_less(world, other, one)
                    self.assertEqual(one.course_count, other.course_count)
                    told += 1
        self.assertGreater(told, 40)

    def test_the_true_position_is_told(self):
        chance = random.Random(70)
        for world, branches in small_worlds(60, 70, least=3):
            branch = chance.choice(branches)
            for now in [0, 3, 6, 15]:
                failed = [event for event in branch.events if chance.random() < 0.5]
                behind = {"h": chance.randint(0, 4), "k": chance.randint(0, 4)}
                told = Telling(world, truth(world, run(world, branch.course()), now, failed=failed, behind=behind))
                for unit in world.units:
                    for tick in range(16):
                        self.assertIn(place_of(world, branch, unit, tick), told.places(unit, tick))

    def test_the_order_in_which_entries_became_known(self):
        chance = random.Random(71)
        for world, branches in small_worlds(30, 71, least=3):
            book = made_book(chance, world, branches)
            if not fitting(world, branches, book):
                continue
            other = Book()
            deeds = [Book({}, [record]) for record in book.records] + [Book({}, [], [record]) for record in book.struck]
            deeds += [Book({house: tick}) for house, tick in book.heard.items()]
            chance.shuffle(deeds)
            for deed in deeds:
                other.take(deed)
            one, two = Telling(world, book), Telling(world, other)
            self.assertEqual((one.possible(), one.sure()), (two.possible(), two.sure()))
            self.assertEqual(one.course_count, two.course_count)
            for unit in world.units:
                for tick in range(16):
                    self.assertEqual(one.places(unit, tick), two.places(unit, tick))


class HeardWorldTest(unittest.TestCase):
    def test_what_is_missing_tells(self):
        """Two houses: what the one does not scan in time has not landed there."""
        sites = [Site("a", "h", "x", "1"), Site("b", "k", "x", "2", lag=1), Site("c", "m", "x", "3")]
        network = Network(sites, [Trip("t", "a", "b", 0, 2, late=3)], [])
        world = World(network, Sorting({}), [])
        self.assertEqual(Telling(world, Book({"k": 9})).course_count, 1)
        world = world_of(parcels_of(1), [Trip("t", "a", "b", 1, 2, late=3)], sites=[site_of("b", lag=1)])
        counts = [Telling(world, Book({"h": tick})).course_count for tick in range(6)]
        self.assertEqual(counts, [4, 4, 4, 3, 2, 1])
        self.assertEqual(raised(Telling, world, Book({"h": 6})), CONTRADICTION)


if __name__ == "__main__":
    unittest.main()
