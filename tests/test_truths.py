"""Points 58 and 59: how runs and books agree."""

import itertools
import random
import unittest

from everyparcel.books import Book
from everyparcel.network import Closing, Network, Site, Trip
from everyparcel.parcels import Parcel
from everyparcel.runs import courses, run
from everyparcel.sorting import Sorting
from everyparcel.tables import HERE, Table
from everyparcel.truths import fits, misfits, truth
from everyparcel.worlds import World
from tests.helpers import invalid, raised, unknown
from tests.plain import some_worlds

TAKEN = [(0, "taken", 1, "a"), (0, "taken", 2, "a")]
LOADED = [(1, "loaded", 1, "t"), (1, "loaded", 2, "t")]
LANDED = [(5, "landed", 1, "b"), (5, "landed", 2, "b")]
OUT = [(8, "out", 1, "b"), (8, "out", 2, "b")]


def small(lag=2):
    """Two parcels go from a of the house h to b of the house k, where there is a sure scanner."""
    sites = [Site("a", "h", "x", "1"), Site("b", "k", "x", "2", rounds=[8], lag=lag), Site("c", "m", "x", "3")]
    network = Network(sites, [Trip("t", "a", "b", 1, 5, late=2)], [])
    sorting = Sorting({"a": Table([("2", "b")]), "b": Table([("2", HERE)])})
    return World(network, sorting, [Parcel(ticket, "2", "a", 0) for ticket in (1, 2)], slips=1)


class FitsTest(unittest.TestCase):
    def setUp(self):
        self.world = small()
        self.run = run(self.world)

    def check(self, book, wrong):
        self.assertEqual(misfits(self.world, self.run, book), wrong)
        self.assertIs(fits(self.world, self.run, book), wrong == [])

    def test_the_empty_book_and_true_records(self):
        self.check(Book(), [])
        self.check(Book({}, self.run.events), [])
        self.check(Book({}, [(3, "seen", 1, "a"), (3, "aboard", 1, "t")]), [(3, "seen", 1, "a")])

    def test_records_that_are_not_true(self):
        wrong = [(6, "landed", 1, "b"), (0, "taken", 1, "b"), (9, "seen", 2, "b"), (8, "out", 1, "a")]
        self.check(Book({}, TAKEN + wrong), sorted(wrong))

    def test_struck_records_do_not_count(self):
        wrong = (6, "landed", 1, "b")
        self.check(Book({}, [wrong], [wrong]), [])
        self.check(Book({}, [wrong], TAKEN), [wrong])

    def test_landings_at_the_heard_tick_less_the_lag_and_one_tick_later(self):
        for heard, told in [(0, []), (6, []), (7, LANDED), (8, LANDED), (99, LANDED)]:
            self.check(Book({"k": heard}), told)
        for lag, heard, told in [(0, 4, []), (0, 5, LANDED), (5, 9, []), (5, 10, LANDED)]:
            world = small(lag)
            self.assertEqual(misfits(world, run(world), Book({"k": heard})), told)

    def test_landings_that_are_recorded(self):
        self.check(Book({"k": 7}, LANDED), [])
        self.check(Book({"k": 7}, LANDED[:1]), LANDED[1:])

    def test_struck_landings(self):
        self.check(Book({"k": 7}, LANDED, LANDED[:1]), LANDED[:1])
        self.check(Book({"k": 7}, LANDED[1:], LANDED[:1]), LANDED[:1])
        self.check(Book({"k": 6}, LANDED, LANDED), [])

    def test_sites_without_a_lag(self):
        world = small(None)
        self.assertEqual(misfits(world, run(world), Book({"k": 99, "h": 99, "m": 99})), [])

    def test_houses_that_are_not_heard(self):
        self.check(Book({"h": 99, "m": 99, "other": 99}), [])

    def test_records_of_other_kinds_may_be_missing(self):
        self.check(Book({"h": 99, "k": 99, "m": 99}, LANDED), [])

    def test_a_landing_in_another_course(self):
        late = run(self.world, ((("t", 1),), ()))
        self.assertEqual(misfits(self.world, late, Book({"k": 7})), [])
        self.assertEqual(misfits(self.world, late, Book({"k": 8}, LANDED)),
                         LANDED + [(6, "landed", 1, "b"), (6, "landed", 2, "b")])

    def test_the_order_of_misfits(self):
        wrong = [(9, "seen", 2, "b"), (0, "taken", 1, "b"), (6, "landed", 2, "b"), (6, "landed", 1, "b")]
        self.check(Book({"k": 7}, wrong), [wrong[1], wrong[3], wrong[2], wrong[0]] + LANDED)

    def test_missing_landings_go_by_the_events(self):
        sites = [Site("a", "h", "x", "1"), Site("b", "k", "x", "2", lag=0), Site("c", "k", "x", "3", lag=0)]
        trips = [Trip("t", "a", "c", 1, 5), Trip("u", "a", "b", 2, 5)]
        sorting = Sorting({"a": Table([("2", "b"), ("3", "c")])})
        world = World(Network(sites, trips, []), sorting, [
            Parcel(10, "3", "a", 0), Parcel(1, "2", "a", 0), Parcel(9, "2", "a", 0)])
        told = [(5, "landed", 10, "c"), (5, "landed", 1, "b"), (5, "landed", 9, "b")]
        self.assertEqual(misfits(world, run(world), Book({"k": 5})), told)

    def test_bags_that_land(self):
        sites = [Site("a", "h", "x", "1"), Site("b", "k", "x", "2", lag=0)]
        network = Network(sites, [Trip("t", "a", "b", 1, 5)], [Closing("s", "a", "b", 0)])
        world = World(network, Sorting({"a": Table([("2", "b")])}), [Parcel(1, "2", "a", 0)])
        self.assertEqual(misfits(world, run(world), Book({"k": 5})), [(5, "landed", "s", "b")])

    def test_the_order_of_the_errors(self):
        """What happened raises, for the first valid record for which it raises something, also beside a misfit."""
        wrong = {(5, "mislaid", 1, "a"): invalid("record"), (6, "taken", 1, "w"): unknown("w"),
                 (7, "taken", 9, "a"): unknown(9), (-1, "taken", 1, "a"): invalid("record")}
        for many in [1, 2, 3, 4]:
            for some in itertools.permutations(wrong, many):
                book = Book({}, [(0, "taken", 1, "b"), (99, "out", 1, "a")] + list(some))
                for call in (fits, misfits):
                    self.assertEqual(raised(call, self.world, self.run, book), wrong[min(some)])
        book = Book({"k": 99}, list(wrong), list(wrong))
        self.assertEqual(misfits(self.world, self.run, book), LANDED)

    def test_the_lists_are_new(self):
        book = Book({"k": 7}, [(9, "seen", 2, "b")])
        misfits(self.world, self.run, book).clear()
        self.assertEqual(len(misfits(self.world, self.run, book)), 3)
        self.assertEqual(self.run.events, run(self.world).events)


class TruthTest(unittest.TestCase):
    def setUp(self):
        self.world = small()
        self.run = run(self.world)

    def records(self, now, **options):
        return truth(self.world, self.run, now, **options).records

    def test_all_houses_are_heard_and_all_events_known(self):
        for now, records in [(0, TAKEN), (1, TAKEN + LOADED), (4, TAKEN + LOADED), (5, TAKEN + LOADED + LANDED),
                             (8, TAKEN + LOADED + LANDED + OUT), (1000, TAKEN + LOADED + LANDED + OUT)]:
            book = truth(self.world, self.run, now)
            self.assertEqual((book.heard, book.records, book.struck), ({"h": now, "k": now, "m": now}, records, []))

    def test_mislaid_and_claimed_are_left_out(self):
        world = World(self.world.network, self.world.sorting, [Parcel(1, "2", "a", 0, days=0)], slips=1, wait=0)
        told = run(world, ((), (("t", 1),)))
        self.assertEqual([event[1] for event in told.events], ["taken", "mislaid", "claimed"])
        self.assertEqual(truth(world, told, 99).records, TAKEN[:1])

    def test_failed(self):
        self.assertEqual(self.records(8, failed=[TAKEN[0], OUT[1]]), TAKEN[1:] + LOADED + LANDED + OUT[:1])
        self.assertEqual(self.records(8, failed=tuple(LOADED)), TAKEN + LANDED + OUT)

    def test_what_never_happened_cannot_fail(self):
        failed = [(5, "landed", 3, "b"), (6, "landed", 1, "b"), (3, "seen", 1, "a"), (-1, "mislaid", 7, "w")]
        self.assertEqual(self.records(8, failed=failed), self.records(8))

    def test_a_landing_that_can_fail_and_one_that_cannot(self):
        for now, stays in [(5, False), (6, False), (7, True), (8, True), (99, True)]:
            records = self.records(now, failed=LANDED[:1] + LOADED)
            self.assertEqual([record for record in records if record[1] == "landed"], LANDED if stays else LANDED[1:])
            self.assertEqual([record for record in records if record[1] == "loaded"], [])
        world = small(None)
        self.assertEqual(truth(world, run(world), 99, failed=LANDED).records, TAKEN + LOADED + OUT)

    def test_behind(self):
        book = truth(self.world, self.run, 8, behind={"k": 1, "m": 0})
        self.assertEqual((book.heard, book.records), ({"h": 8, "k": 7, "m": 8}, TAKEN + LOADED + LANDED))
        book = truth(self.world, self.run, 8, behind={"k": 4, "h": 7})
        self.assertEqual((book.heard, book.records), ({"h": 1, "k": 4, "m": 8}, TAKEN + LOADED))
        self.assertEqual(self.records(8, behind={"k": 3}), TAKEN + LOADED + LANDED)
        self.assertEqual(self.records(8, behind={"h": 8}), TAKEN + LANDED + OUT)

    def test_behind_that_leads_to_a_negative_tick(self):
        book = truth(self.world, self.run, 8, behind={"h": 9, "m": 100})
        self.assertEqual((book.heard, book.records), ({"k": 8}, LANDED + OUT))
        book = truth(self.world, self.run, 0, behind={"h": 1, "k": 1, "m": 1})
        self.assertTrue(book == Book())

    def test_a_house_that_the_network_does_not_have(self):
        self.assertTrue(truth(self.world, self.run, 8, behind={"other": 3}) == truth(self.world, self.run, 8))

    def test_a_landing_fails_by_the_heard_tick_of_its_house(self):
        for behind, stays in [(0, True), (1, True), (2, False), (3, False)]:
            records = self.records(8, failed=LANDED, behind={"k": behind, "h": 8})
            self.assertEqual(LANDED[0] in records, stays)

    def test_the_house_of_the_trip_and_of_the_closing(self):
        sites = [Site("a", "h", "x", "1"), Site("b", "k", "x", "2")]
        network = Network(sites, [Trip("t", "a", "b", 1, 5)], [Closing("s", "a", "b", 0)])
        world = World(network, Sorting({"a": Table([("2", "b")])}), [Parcel(1, "2", "a", 0)])
        self.assertEqual([record[1] for record in truth(world, run(world), 9, behind={"k": 9}).records],
                         ["packed", "taken", "loaded"])
        self.assertEqual([record[1] for record in truth(world, run(world), 9, behind={"h": 10}).records],
                         ["emptied", "landed"])

    def test_what_is_passed_stays(self):
        failed, behind = [TAKEN[0]], {"k": 1}
        book = truth(self.world, self.run, 8, failed=failed, behind=behind)
        book.note((9, "out", 1, "z"))
        self.assertEqual((failed, behind), ([TAKEN[0]], {"k": 1}))
        self.assertEqual(self.run.events, TAKEN + LOADED + LANDED + OUT)

    def test_the_run_fits_each_book_of_it(self):
        chance = random.Random(59)
        others = 0
        for world in some_worlds(120, 59, 20):
            runs = [run(world, course) for course in courses(world)]
            for told in runs:
                for now in [0, 3, 6, world.until, world.until + 5]:
                    failed = [event for event in told.events if chance.random() < 0.4]
                    behind = {"h": chance.randint(0, 4), "other": 3} if chance.random() < 0.5 else None
                    book = truth(world, told, now, failed=failed, behind=behind)
                    self.assertEqual(misfits(world, told, book), [])
                    self.assertTrue(fits(world, told, book))
                    others += len([other for other in runs if not fits(world, other, book)])
                whole = truth(world, told, world.until)
                self.assertEqual([event for event in told.events if event[1] == "landed" and event not in whole], [])
        self.assertGreater(others, 100)

    def test_fitting_by_the_words(self):
        """Each course against the books of another one, by the words of point 58."""
        chance = random.Random(58)
        for world in some_worlds(60, 58, 12):
            runs = [run(world, course) for course in courses(world)]
            for one, other in itertools.product(runs, runs):
                book = truth(world, other, chance.randint(0, 15), failed=other.events if chance.random() < 0.5 else ())
                wrong = [record for record in book.valid if record not in one.events]
                for event in one.events:
                    site = [site for site in world.network.sites if site.name == event[3]]
                    if event[1] == "landed" and site[0].lag is not None:
                        heard = book.heard.get(site[0].house, -1)
                        if event[0] <= heard - site[0].lag and event not in book.records:
                            wrong.append(event)
                self.assertEqual(misfits(world, one, book), wrong)


if __name__ == "__main__":
    unittest.main()
