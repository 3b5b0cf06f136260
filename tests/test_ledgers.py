"""Points 82, 83 and 86: ledgers, balances, and what is booked."""

import random
import unittest

from everyparcel.books import Book
from everyparcel.charges import Charge, Postage, Prices, Toll
from everyparcel.goods import Good
from everyparcel.ledgers import balance, balances, booked, ledger
from everyparcel.network import Closing, Network, Site, Trip
from everyparcel.parcels import Parcel
from everyparcel.runs import run
from everyparcel.sorting import Sorting
from everyparcel.tables import HERE, Table
from everyparcel.tariffs import ANY, Tariff
from everyparcel.truths import truth
from everyparcel.worlds import World
from tests.brute import (
    fitting, in_ledger_order, is_overdue, made_book, plain_balance, plain_postings, small_worlds,
)
from tests.helpers import raised
from tests.test_layers import growing_world
from tests.test_runs import too_many
from tests.test_ticks import parcels_of, site_of, world_of
from tests.test_worlds import small_world

SENDER, H, K = ("sender", "sender"), ("house", "h"), ("house", "k")
CONTRADICTION = ("Contradiction", {})


def bag_world(parcels, closings, trips, **sites):
    """Sites a to d, of which a has the house h and the others k; all parcels go from a by b to c."""
    found = [Site(name, "h" if name == "a" else "k", "x", str(code), **sites.get(name, {}))
             for code, name in enumerate("abcd", 1)]
    sorting = Sorting({"a": Table([("3", "b"), ("2", "b"), ("4", "b")]),
                       "b": Table([("3", "c"), ("4", "c"), ("2", HERE)]), "c": Table([("3", HERE), ("4", "d")]),
                       "d": Table([("4", HERE)])})
    return World(Network(found, trips, closings), sorting, parcels)


class LedgerTest(unittest.TestCase):
    def test_event_after_event(self):
        world = small_world()
        self.assertEqual(ledger(world, run(world), Prices.usual()), [(3, SENDER, H, 403, "postage", 1)])
        sites = [site_of("b", rounds=[30])]
        lanes = {"a": [("3", "b")], "b": [("3", HERE)]}
        goods = [Good("1", 50, "x")]
        parcels = [Parcel(2, "3", "a", 0, days=0, goods=goods), Parcel(1, "3", "a", 0, weight=9)]
        world = world_of(parcels, [Trip("t", "a", "b", 1, 4)], sites=sites, lanes=lanes, wait=0)
        self.assertEqual(ledger(world, run(world), Prices.usual()), [
            (0, SENDER, H, 427, "postage", 1), (0, SENDER, H, 403, "postage", 2), (23, H, SENDER, 50, "cover", 2),
            (30, H, SENDER, 403, "refund", 2), (30, SENDER, H, 50, "return", 2)])

    def test_no_prices(self):
        world = small_world()
        self.assertEqual(ledger(world, run(world), Prices()), [])
        self.assertEqual(ledger(world, run(world), Prices(Charge("taken"))), [])

    def test_a_bag_that_is_packed_and_loaded_at_once(self):
        # Two parcels are packed and ride in the bag; the third one is too much for it.
        closings = [Closing("k", "a", "c", 5, size=2)]
        trips = [Trip("t", "a", "b", 5, 6), Trip("u", "b", "c", 7, 9, toll=2)]
        world = bag_world(parcels_of(1, 2, 3), closings, trips)
        self.assertEqual(ledger(world, run(world), Prices(Toll())),
                         [(7, H, K, 2, "toll", ticket) for ticket in (1, 2, 3)])
        # At its own house nothing is owed; elsewhere each parcel in the bag pays at the tick of the packing.
        parcels = [Parcel(ticket, "3", "a", 0) for ticket in (1, 2)] + [Parcel(4, "3", "b", 7)]
        closings = [Closing("k", "b", "c", 7, size=2)]
        world = bag_world(parcels, closings, [trips[0], Trip("u", "b", "c", 7, 9, toll=2)])
        self.assertEqual([event[1:] for event in run(world).events if event[0] == 7], [
            ("taken", 4, "b"), ("packed", 1, "k"), ("packed", 2, "k"), ("loaded", "k", "u"), ("loaded", 4, "u")])
        self.assertEqual(ledger(world, run(world), Prices(Toll())), [(7, H, K, 2, "toll", 1), (7, H, K, 2, "toll", 2)])

    def test_a_bag_that_lands_and_is_emptied_at_once(self):
        # The bag lands at b and is emptied there; what was in it rides on by itself at that very tick.
        closings = [Closing("k", "a", "b", 5)]
        trips = [Trip("t", "a", "b", 5, 7, toll=1), Trip("u", "b", "c", 7, 9, toll=2)]
        world = bag_world(parcels_of(1, 2), closings, trips)
        self.assertEqual([event[1:] for event in run(world).events if event[0] == 7],
                         [("landed", "k", "b"), ("emptied", "k", "b"), ("loaded", 1, "u"), ("loaded", 2, "u")])
        self.assertEqual(ledger(world, run(world), Prices(Toll())), [(7, H, K, 2, "toll", 1), (7, H, K, 2, "toll", 2)])

    def test_the_tickets_that_a_charge_is_given(self):
        """Each event with the parcels in its unit at that moment: bags in bags, packed, loaded, landed and emptied."""
        seen = []
        prices = Prices.usual()
        prices.postings = lambda world, event, tickets: seen.append((event, list(tickets))) or []
        closings = [Closing("k", "a", "d", 1), Closing("m", "a", "c", 2), Closing("n", "b", "c", 6)]
        trips = [Trip("t", "a", "b", 2, 6), Trip("u", "b", "c", 6, 9), Trip("v", "c", "d", 9, 11)]
        parcels = [Parcel(5, "4", "a", 0), Parcel(3, "4", "a", 0), Parcel(1, "3", "a", 2), Parcel(2, "4", "b", 6)]
        world = bag_world(parcels, closings, trips)
        ledger(world, run(world), prices)
        self.assertEqual([event for event, _ in seen], run(world).events)
        told = {event[1:]: tickets for event, tickets in seen}
        for event, tickets in [
                (("packed", 3, "k"), [3]), (("packed", 5, "k"), [5]), (("packed", 1, "m"), [1]),
                (("packed", "k", "m"), [3, 5]), (("loaded", "m", "t"), [1, 3, 5]), (("landed", "m", "b"), [1, 3, 5]),
                (("emptied", "n", "c"), [1, 2, 3, 5]), (("packed", "m", "n"), [1, 3, 5]),
                (("packed", 2, "n"), [2]), (("loaded", "n", "u"), [1, 2, 3, 5]), (("landed", "n", "c"), [1, 2, 3, 5]),
                (("loaded", "k", "v"), [3, 5]), (("landed", "k", "d"), [3, 5]), (("loaded", 2, "v"), [2])]:
            self.assertEqual(told[event], tickets, event)

    def test_a_bag_that_has_the_name_of_a_site_and_a_trip(self):
        # What lies at the site b, or rides on the trip b, does not lie in the bag b.
        closings = [Closing("b", "a", "c", 2), Closing("t", "b", "c", 9)]
        trips = [Trip("b", "a", "b", 1, 8), Trip("t", "a", "b", 3, 5), Trip("u", "b", "c", 6, 9, toll=2)]
        world = bag_world([Parcel(1, "3", "a", 0), Parcel(2, "3", "a", 2), Parcel(4, "2", "a", 2)], closings, trips)
        self.assertEqual([event[1:] for event in run(world).events if event[0] in (3, 6)],
                         [("loaded", "b", "t"), ("loaded", 4, "t"), ("loaded", "b", "u")])
        self.assertEqual(ledger(world, run(world), Prices(Toll())), [(6, H, K, 2, "toll", 2)])
        self.assertEqual(booked(world, Book(), Prices(Toll())), [(6, H, K, 2, "toll", 2)])

    def test_the_lists_are_new(self):
        world = small_world()
        ledger(world, run(world), Prices.usual()).clear()
        self.assertEqual(len(ledger(world, run(world), Prices.usual())), 1)

    def test_small_worlds(self):
        """All ledgers against plain ones, in which no posting occurs twice."""
        words = {}
        for world, branches in small_worlds(250, 82, rich=True):
            for branch in branches:
                told = ledger(world, run(world, branch.course()), Prices.usual())
                self.assertEqual(told, plain_postings(world, branch))
                self.assertEqual(len(set(told)), len(told))
                self.assertEqual(sum(balances(told).values()), 0)
                for posting in told:
                    words[posting[4]] = words.get(posting[4], 0) + 1
        self.assertGreater(min(words.get(word, 0) for word in ["postage", "toll", "duty", "refund", "cover"]), 4, words)


class BalancesTest(unittest.TestCase):
    POSTINGS = [(3, SENDER, K, 403, "postage", 1), (5, K, H, 6, "toll", 1), (9, SENDER, ("land", "y"), 20, "duty", 1),
                (30, K, SENDER, 403, "refund", 1)]

    def test_ascending_with_the_sum_0(self):
        told = balances(self.POSTINGS)
        self.assertEqual(list(told.items()), [(H, 6), (K, -6), (("land", "y"), 20), (SENDER, -20)])
        self.assertEqual(sum(told.values()), 0)
        self.assertEqual(list(balances(self.POSTINGS[::-1]).items()), list(told.items()))
        self.assertEqual(balances([]), {})

    def test_an_account_with_the_balance_0_stays(self):
        told = balances([(3, H, K, 5, "toll", 1), (4, K, H, 5, "toll", 2)])
        self.assertEqual(told, {H: 0, K: 0})

    def test_one_account(self):
        for account, cents in [(H, 6), (K, -6), (("land", "y"), 20), (SENDER, -20), (("house", "w"), 0),
                               (("land", "h"), 0), (("sender", "k"), 0)]:
            self.assertEqual(balance(self.POSTINGS, account), cents)
        self.assertEqual(balance([], H), 0)
        self.assertEqual(balance(tuple(self.POSTINGS), H), 6)

    def test_what_is_passed_stays(self):
        postings = list(self.POSTINGS)
        balances(postings).clear()
        balance(postings, H)
        self.assertEqual(postings, self.POSTINGS)


class BookedTest(unittest.TestCase):
    def fork(self):
        """A parcel of the house h, which may be mislaid by the first of two trips of the house k."""
        lanes = {"a": [("3", "b")], "b": [("3", "c")], "c": [("3", HERE)]}
        sites = [Site("b", "k", "x", "2"), Site("c", "h", "x", "3", rounds=[20])]
        trips = [Trip("t", "a", "b", 1, 4, toll=5), Trip("u", "b", "c", 6, 9, toll=7)]
        return world_of(parcels_of(1), trips, lanes=lanes, sites=sites, slips=1)

    def test_what_every_course_has(self):
        world, postage, toll = self.fork(), (0, SENDER, H, 403, "postage", 1), (6, H, K, 7, "toll", 1)
        self.assertEqual(booked(world, Book(), Prices.usual()), [postage])
        # It is booked as soon as nothing else is possible, also for a tick that is still to come.
        self.assertEqual(booked(world, Book({}, [(6, "loaded", 1, "u")]), Prices.usual()), [postage, toll])
        self.assertEqual(booked(world, Book({}, [(9, "landed", 1, "c")]), Prices.usual()), [postage, toll])
        world = world_of(parcels_of(1), [Trip("t", "a", "b", 1, 4, toll=5), Trip("u", "b", "c", 6, 9, toll=7)],
                         sites=[Site("b", "k", "x", "2")])
        self.assertEqual(booked(world, Book(), Prices.usual()), [postage, toll])

    def test_a_posting_that_every_course_has_by_another_event(self):
        # By one trip or by the other, the parcel leaves b at the tick 6, and the toll is the same.
        sites = [Site("b", "k", "x", "2", searches=[8])]
        trips = [Trip("t", "a", "b", 1, 4, late=1), Trip("u", "b", "c", 6, 9, toll=7, room=1),
                 Trip("v", "b", "c", 6, 9, toll=7)]
        parcels = [Parcel(2, "3", "a", 0), Parcel(3, "3", "b", 0)]
        world = world_of(parcels, trips, sites=sites)
        self.assertEqual(booked(world, Book(), Prices(Toll())), [(6, H, K, 7, "toll", 2)])
        trips = [Trip("r", "d", "b", 0, 5, late=2)] + trips
        lanes = {"a": [("3", "b")], "b": [("3", "c")], "d": [("3", "b")]}
        world = world_of([Parcel(1, "3", "d", 0), Parcel(2, "3", "a", 0)], trips, sites=sites, lanes=lanes)
        rides = {run(world, course).position(2, 6) for course in [((), ()), ((("r", 2),), ())]}
        self.assertEqual(rides, {("on", "u"), ("on", "v")})
        self.assertIn((6, H, K, 7, "toll", 2), booked(world, Book(), Prices(Toll())))

    def test_the_order_goes_by_tick_word_and_ticket(self):
        world = world_of(parcels_of(10, 9) + parcels_of(2, taken=1), [Trip("t", "b", "c", 1, 4, toll=1)],
                         sites=[Site("b", "k", "x", "2")])
        told = booked(world, Book(), Prices(Toll(), Postage(1, 0)))
        self.assertEqual([(posting[0], posting[4], posting[5]) for posting in told],
                         [(0, "postage", 9), (0, "postage", 10), (1, "postage", 2)])
        parcels = parcels_of(10, 9) + [Parcel(11, "3", "b", 5), Parcel(7, "3", "b", 0)]
        world = world_of(parcels, [Trip("t", "a", "b", 1, 4), Trip("u", "b", "c", 5, 9, toll=1)],
                         sites=[Site("b", "k", "x", "2")])
        told = booked(world, Book(), Prices(Toll(), Postage(1, 0)))
        self.assertEqual([(posting[0], posting[4], posting[5]) for posting in told], [
            (0, "postage", 7), (0, "postage", 9), (0, "postage", 10), (5, "postage", 11), (5, "toll", 9),
            (5, "toll", 10)])

    def test_errors(self):
        world = growing_world()
        self.assertEqual(raised(booked, world, Book(), Prices.usual(), most=7), too_many(7, 5))
        self.assertIsNone(raised(booked, world, Book(), Prices.usual(), most=8))
        false = Book({}, [(99, "out", 1, "b")])
        self.assertEqual(raised(booked, world, false, Prices.usual()), CONTRADICTION)
        self.assertEqual(raised(booked, world, false, Prices.usual(), most=7), too_many(7, 5))
        for many, told in [(8, None), (9, too_many(500, 1))]:
            large = world_of(parcels_of(*range(1, many + 1)), [Trip("t", "a", "b", 1, 99, room=99)], slips=99)
            self.assertEqual(raised(booked, large, Book(), Prices.usual()), told)

    def test_too_many_courses_to_go_through(self):
        trips = [Trip(f"t{k}", "a", "b", 2 * k, 2 * k + 1, late=1, toll=1) for k in range(40)]
        world = world_of([Parcel(k + 1, "3", "a", 2 * k) for k in range(40)], trips)
        self.assertEqual(len(booked(world, Book(), Prices.usual())), 40)

    def test_what_is_passed_stays(self):
        book = Book({"h": 3}, [(6, "loaded", 1, "u")])
        booked(self.fork(), book, Prices.usual()).clear()
        self.assertTrue(book == Book({"h": 3}, [(6, "loaded", 1, "u")]))
        self.assertEqual(len(booked(self.fork(), book, Prices.usual())), 2)

    def test_small_worlds(self):
        """Against the plain ledgers of all fitting courses."""
        chance = random.Random(83)
        one = several = 0
        for world, branches in small_worlds(250, 83, least=3, rich=True):
            for _ in range(2):
                book = made_book(chance, world, branches)
                some = [plain_postings(world, branch) for branch in fitting(world, branches, book)]
                if not some:
                    self.assertEqual(raised(booked, world, book, Prices.usual()), CONTRADICTION)
                    continue
                told = [posting for posting in some[0] if all(posting in other for other in some)]
                self.assertEqual(booked(world, book, Prices.usual()), in_ledger_order(told))
                one += len(some) == 1
                several += len(some) > 1 and sorted(some[0]) != sorted(told)
                if len(some) == 1:
                    self.assertEqual(booked(world, book, Prices.usual()), in_ledger_order(some[0]))
        self.assertGreater(min(one, several), 20)

    def test_a_book_that_grows(self):
        chance = random.Random(84)
        steps = 0
        for world, branches in small_worlds(60, 84, least=3, rich=True):
            branch = chance.choice(branches)
            whole, book = truth(world, run(world, branch.course()), 15), Book()
            before = booked(world, book, Prices.usual())
            deeds = [Book({}, [record]) for record in whole.records]
            deeds += [Book({"h": 5}), Book({"k": 15}), Book({"h": 15})]
            chance.shuffle(deeds)
            for deed in deeds:
                if deed.records and is_overdue(world, book, deed.records[0]):
                    continue
                more = book + deed
                if fitting(world, branches, more):
                    after = booked(world, more, Prices.usual())
                    self.assertLessEqual(set(before), set(after))
                    book, before = more, after
                    steps += 1
        self.assertGreater(steps, 200)

    def test_balances_of_small_worlds(self):
        for world, branches in small_worlds(40, 85, rich=True):
            for branch in branches:
                postings = plain_postings(world, branch)
                told = balances(postings)
                self.assertEqual(list(told), sorted(told))
                for account in list(told) + [("house", "w")]:
                    self.assertEqual(balance(postings, account), plain_balance(postings, account))
                    self.assertEqual(told.get(account, 0), plain_balance(postings, account))


class ConsignmentTest(unittest.TestCase):
    def test_duties_of_all_parcels_of_the_world(self):
        """The worths of a consignment count together, also of a parcel that is never cleared."""
        sites = [Site("a", "h", "x", "1"), Site("b", "k", "y", "2", sittings=[9], rounds=[12])]
        network = Network(sites, [Trip("t", "a", "b", 5, 9, room=1)], [])
        sorting = Sorting({"a": Table([("2", "b")]), "b": Table([("2", HERE)])})
        goods = [Good("12", 60, "x")]
        tariffs = {"y": Tariff("y", [("1", ANY, 500)], free=100)}
        one = World(network, sorting, [Parcel(1, "2", "a", 0, goods=goods)], tariffs=tariffs)
        both = one.added(Parcel(2, "9", "a", 0, goods=goods))
        self.assertEqual([posting[4] for posting in ledger(one, run(one), Prices.usual())], ["postage"])
        self.assertEqual(ledger(both, run(both), Prices.usual())[-1], (9, SENDER, ("land", "y"), 30, "duty", 1))


if __name__ == "__main__":
    unittest.main()
