"""Points 88 to 91: the house."""

import itertools
import random
import unittest

from everyparcel.books import Book
from everyparcel.charges import Express, Postage, Prices, Toll
from everyparcel.goods import Good
from everyparcel.house import House, tried
from everyparcel.ledgers import balance, booked
from everyparcel.network import Closing, Network, Site, Trip
from everyparcel.parcels import Parcel
from everyparcel.promises import day_sure, promise_answer
from everyparcel.quotes import quote
from everyparcel.ranges import balance_range
from everyparcel.runs import count_courses, run
from everyparcel.settling import house_postings, payments
from everyparcel.sorting import Sorting
from everyparcel.tables import HERE, Table
from everyparcel.tariffs import ANY, Tariff
from everyparcel.tellings import Telling, places
from everyparcel.truths import truth
from everyparcel.watches import Watch
from tests.brute import made_book, made_story_world
from tests.helpers import invalid, raised, small_network, small_sorting, unknown
from tests.plain import plain_courses
from tests.test_runs import too_many

H, K, SENDER = ("house", "h"), ("house", "k"), ("sender", "sender")
CONTRADICTION = ("Contradiction", {})
AT_N, ON_T1 = ("at", "n"), ("on", "t1")
LANDED = (8, "landed", 1, "n")


def small_house(**options):
    return House(small_network(), small_sorting(), **options)


def row_network(**options):
    """From a of the house h by b of the house k to c: twice a day to b, and once on at a toll."""
    sites = [Site("a", "h", "x", "1", **options), Site("b", "k", "x", "2", lag=0),
             Site("c", "h", "x", "3", rounds=[20, 44])]
    trips = [Trip("t", "a", "b", 2, 4, late=1), Trip("u", "b", "c", 4, 9, toll=6), Trip("v", "b", "c", 5, 9, toll=7),
             Trip("w", "a", "b", 26, 28), Trip("y", "b", "c", 29, 31, toll=5)]
    return Network(sites, trips, [])


def row_sorting():
    return Sorting({"a": Table([("3", "b"), ("1", HERE)]), "b": Table([("3", "c")]), "c": Table([("3", HERE)])})


def row_house(**options):
    return House(row_network(), row_sorting(), **options)


def all_of(house):
    """All that a house is, by what it tells."""
    book, world = house.book, house.world
    told = [house.places(unit, tick) for unit in world.units for tick in range(0, 60, 3)]
    return (len(house), [vars(parcel) for parcel in world.parcels], book.heard, book.records, book.struck,
            house.journal, house.most, house.course_count, told, next_ticket(house))


def next_ticket(house):
    """The ticket that the next parcel would get, if there is room for it."""
    def deed(desk):
        desk.most = 10 ** 6
        desk.accept("9", desk.world.network.sites[0].name, 10 ** 6)
        return len(desk)
    return tried(house, deed)


class NewHouseTest(unittest.TestCase):
    def test_without_parcels_and_with_the_empty_book(self):
        house = small_house()
        self.assertEqual((len(house), house.journal, house.course_count, house.most), (0, [], 1, 500))
        self.assertTrue(house.book == Book())
        world = house.world
        self.assertEqual((world.tickets, world.slips, world.wait, world.tariffs), ([], 0, None, {}))
        self.assertEqual(house.settle(), [])
        self.assertEqual((house.balance(H), house.between(H)), (0, (0, 0)))
        self.assertNotIn(1, house)

    def test_the_options_of_a_world(self):
        tariffs = {"x": Tariff("x", [])}
        house = small_house(tariffs=tariffs, slips=2, wait=3, most=7)
        self.assertEqual((house.world.tariffs, house.world.slips, house.world.wait, house.most), (tariffs, 2, 3, 7))
        tariffs.clear()
        self.assertEqual(list(house.world.tariffs), ["x"])

    def test_the_errors_of_world_at_once(self):
        self.assertEqual(raised(small_house, slips=-1), invalid("world"))
        self.assertEqual(raised(small_house, wait=-1), invalid("world"))

    def test_prices_none_and_given(self):
        self.assertEqual(small_house().prices.words(), Prices.usual().words())
        prices = Prices(Postage(7, 0))
        house = small_house(prices=prices)
        self.assertIs(house.prices, prices)
        house.accept("21", "s", 3)
        self.assertEqual((house.balance(H), house.between(H)), (7, (7, 7)))
        house = small_house(prices=Prices())
        house.accept("21", "s", 3)
        self.assertEqual((house.balance(H), house.journal), (0, []))
        house = small_house(prices=Prices(Express(10, 0, 100)))
        house.accept("21", "s", 3, days=1)
        self.assertEqual(house.balance(H), 60)


class AcceptTest(unittest.TestCase):
    def test_tickets_from_1_on(self):
        house = small_house()
        self.assertEqual([house.accept("21", "s", 3) for _ in range(3)], [1, 2, 3])
        self.assertEqual((len(house), house.world.tickets), (3, [1, 2, 3]))
        self.assertEqual([ticket in house for ticket in range(5)], [False, True, True, True, False])

    def test_the_options_of_a_parcel(self):
        house, goods = small_house(), [Good("12", 9, "x")]
        house.accept("21", "s", 3, weight=4, days=1, sender="ann", receiver="bob", goods=goods)
        goods.clear()
        parcel = house.world.parcel(1)
        told = (parcel.ticket, parcel.address, parcel.start, parcel.taken, parcel.weight, parcel.days, parcel.sender,
                parcel.receiver, parcel.worth)
        self.assertEqual(told, (1, "21", "s", 3, 4, 1, "ann", "bob", 9))

    def test_the_options_left_out(self):
        house = small_house()
        house.accept("21", "s", 3)
        self.assertEqual(vars(house.world.parcel(1)), vars(Parcel(1, "21", "s", 3)))

    def check(self, house, error, *given, **options):
        before = all_of(house)
        self.assertEqual(raised(house.accept, *given, **options), error)
        self.assertEqual(all_of(house), before)

    def test_the_errors_of_parcel_and_of_world(self):
        house = small_house()
        house.accept("21", "s", 3)
        for given, options in [(("", "s", 3), {}), (("a", "s", 3), {}), (("21", "S", 3), {}), (("21", "s", -1), {}),
                               (("21", "s", 3), {"weight": 0}), (("21", "s", 3), {"days": -1}),
                               (("21", "s", 3), {"sender": ""}), (("21", "s", 3), {"receiver": "A"})]:
            self.check(house, invalid("parcel"), *given, **options)
        self.check(house, invalid("world"), "21", "w", 3)
        self.assertEqual(house.accept("21", "s", 3), 2)

    def test_late_by_heard_ticks(self):
        house = small_house()
        house.accept("21", "s", 3)
        house.hear("h", 3)
        for taken, error in [(0, ("Late", {"tick": 3})), (3, ("Late", {"tick": 3})), (4, None)]:
            self.assertEqual(raised(tried, house, lambda desk: desk.accept("21", "s", taken)), error)
        # A house that the network does not have counts, too.
        house.hear("other", 7)
        self.check(house, ("Late", {"tick": 7}), "21", "s", 7)
        self.assertEqual(house.accept("21", "s", 8), 2)

    def test_late_by_valid_records(self):
        house = small_house()
        house.accept("21", "s", 3)
        house.note((5, "loaded", 1, "t1"))
        self.check(house, ("Late", {"tick": 5}), "21", "s", 5)
        house.hear("h", 2)
        self.check(house, ("Late", {"tick": 5}), "21", "s", 0)
        house.note((9, "seen", 1, "n"))
        self.check(house, ("Late", {"tick": 9}), "21", "s", 9)
        house.strike((9, "seen", 1, "n"))
        self.check(house, ("Late", {"tick": 5}), "21", "s", 5)
        house.strike((5, "loaded", 1, "t1"))
        self.check(house, ("Late", {"tick": 2}), "21", "s", 2)
        self.assertEqual(house.accept("21", "s", 3), 2)

    def test_a_struck_record_alone_is_not_known(self):
        house = small_house()
        house.strike((99, "odd", 1, "w"))
        house.take(Book({}, [(50, "taken", 9, "w")], [(50, "taken", 9, "w")]))
        self.assertEqual(house.accept("21", "s", 0), 1)
        house.hear("k", 0)
        self.check(house, ("Late", {"tick": 0}), "21", "s", 0)

    def test_refused(self):
        house = row_house()
        # On the first day t brings it in time, whenever it lands; on the second day it is too late for all trips on.
        self.assertEqual(house.accept("3", "a", 0, days=0), 1)
        self.check(house, ("Refused", {"days": 1, "course": ((), ())}), "3", "a", 3, days=0)
        self.assertEqual(house.accept("3", "a", 3, days=1), 2)
        self.check(house, ("Refused", {"days": None, "course": ((), ())}), "3", "a", 27, days=30)
        self.check(house, ("Refused", {"days": None, "course": ((), ())}), "9", "a", 0, days=0)
        self.assertEqual(house.accept("3", "a", 27), 3)
        self.assertEqual(house.accept("1", "a", 27), 4)

    def test_refused_by_the_first_course_that_breaks_it(self):
        house = row_house(slips=1)
        error = raised(house.accept, "3", "a", 0, days=0)
        world = house.world.added(Parcel(1, "3", "a", 0, days=0))
        self.assertEqual(error, ("Refused", {"days": None, "course": promise_answer(world, 1, 0)[1]}))
        self.assertEqual(error[1]["course"], ((), (("u", 1),)))
        sites = [Site("a", "h", "x", "1", searches=[1]), Site("b", "h", "x", "2", rounds=[10, 30])]
        network = Network(sites, [Trip("t", "a", "b", 0, 9, late=9), Trip("u", "a", "b", 1, 9)], [])
        house = House(network, Sorting({"a": Table([("2", "b")]), "b": Table([("2", HERE)])}))
        self.check(house, ("Refused", {"days": 1, "course": ((("t", 2),), ())}), "2", "a", 0, days=0)
        self.assertEqual(house.accept("2", "a", 1, days=0), 1)

    def test_the_book_does_not_help_a_promise(self):
        # Which units are mislaid is asked without the book.
        house = row_house(slips=1)
        house.accept("3", "a", 0)
        house.hear("h", 1)
        self.assertEqual(raised(house.accept, "3", "a", 2, days=1)[0], "Refused")
        for record in [(2, "loaded", 1, "t"), (4, "landed", 1, "b")]:
            house.note(record)
        self.assertEqual(raised(house.accept, "3", "a", 25, days=1)[0], "Refused")

    def test_too_many(self):
        # Each parcel that the trip takes may be mislaid: 2, 4, 8 standings after the tick 2.
        house = row_house(slips=9, most=4)
        house.accept("3", "a", 0)
        self.check(house, too_many(4, 4), "3", "a", 0)
        house.note((2, "loaded", 1, "t"))
        self.check(house, ("Late", {"tick": 2}), "3", "a", 0)
        house.strike((2, "loaded", 1, "t"))
        house.most = 500
        self.assertEqual(house.accept("3", "a", 0), 2)
        # The book makes the layers smaller; without it they are too large, which counts if days are promised.
        house.take(Book({}, [(2, "loaded", 1, "t"), (2, "loaded", 2, "t"), (4, "landed", 1, "b"), (4, "loaded", 1, "u"),
                             (4, "loaded", 2, "u")]))
        house.most = 3
        world = house.world.added(Parcel(3, "1", "a", 25))
        self.assertEqual(raised(count_courses, world, most=3)[0], "TooMany")
        self.check(house, raised(count_courses, world, most=3), "1", "a", 25, days=0)
        self.assertEqual(house.accept("1", "a", 25), 3)

    def test_two_errors_at_once(self):
        """Each pair of causes, in the order of point 89."""
        house = row_house(slips=2, most=8)
        house.accept("3", "a", 0)
        house.note((4, "landed", 1, "b"))
        late = ("Late", {"tick": 4})
        good = {"address": "1", "start": "a", "taken": 5, "days": None}
        causes = [({"address": "x"}, invalid("parcel")), ({"start": "w"}, invalid("world")), ({"taken": 4}, late)]
        for (one, error), (other, _) in itertools.combinations(causes, 2):
            given = {**good, **one, **other}
            self.check(house, error, given["address"], given["start"], given["taken"])
        for cause, error in causes:
            given = {**good, **cause}
            self.check(house, error, given["address"], given["start"], given["taken"], days=0)
        # Refused ahead of TooMany with the book: here it is the book that no longer fits the limit alone.
        self.check(house, ("Refused", {"days": None, "course": promise_answer(
            house.world.added(Parcel(2, "9", "a", 5, days=0)), 2, 0)[1]}), "9", "a", 5, days=0)

    def test_too_many_without_the_book_comes_ahead_of_refused(self):
        house = row_house(slips=2, most=4)
        house.accept("3", "a", 0)
        house.take(Book({}, [(2, "loaded", 1, "t"), (4, "landed", 1, "b"), (4, "loaded", 1, "u")]))
        house.most = 2
        world = house.world.added(Parcel(2, "9", "a", 5, days=0))
        error = raised(count_courses, world, most=2)
        self.assertEqual(error[0], "TooMany")
        self.check(house, error, "9", "a", 5, days=0)
        # Late comes ahead of both.
        self.check(house, ("Late", {"tick": 4}), "9", "a", 4, days=0)
        self.assertEqual(house.accept("9", "a", 5), 2)

    def test_refused_at_the_limit_and_one_below_it(self):
        course = promise_answer(row_house(slips=1).world.added(Parcel(1, "3", "a", 0, days=0)), 1, 0)[1]
        for most, error in [(3, too_many(3, 4)), (4, ("Refused", {"days": None, "course": course}))]:
            self.check(row_house(slips=1, most=most), error, "3", "a", 0, days=0)

    def test_a_promise_that_was_accepted_stays_given(self):
        house = row_house()
        for number, (taken, days) in enumerate([(0, 0), (2, 0), (0, None), (3, 1), (1, 0), (26, 0), (4, 3)], 1):
            self.assertEqual(house.accept("3", "a", taken, days=days), number)
            for parcel in house.world.parcels:
                if parcel.days is not None:
                    self.assertLessEqual(day_sure(house.world, parcel.ticket), parcel.due // 24)
                    self.assertLessEqual(house.day_sure(parcel.ticket), parcel.due // 24)


class LearnTest(unittest.TestCase):
    def setUp(self):
        self.house = small_house()
        self.house.accept("21", "s", 3)

    def test_what_is_returned(self):
        both = [AT_N, ON_T1]
        self.assertEqual(self.house.note(LANDED), [(1, 8, both, [AT_N]), (1, 9, both, [AT_N])])
        self.assertEqual(self.house.note(LANDED), [])
        self.assertEqual(self.house.hear("h", 7), [])
        self.assertEqual(self.house.strike(LANDED), [(1, 8, [AT_N], both), (1, 9, [AT_N], both)])
        other = Book({"h": 9, "k": 3}, [(8, "aboard", 1, "t1")])
        self.assertEqual(self.house.take(other, Book()), [(1, 8, both, [ON_T1])])
        self.assertEqual(self.house.take(), [])
        self.assertTrue(self.house.book == Book({"h": 9, "k": 3}, [LANDED, (8, "aboard", 1, "t1")], [LANDED]))

    def test_a_house_with_a_sure_scanner(self):
        house = row_house()
        house.accept("3", "a", 0)
        self.assertEqual(house.places(1, 4), [("on", "t"), ("on", "u")])
        self.assertEqual(house.hear("k", 3), [])
        told = house.hear("k", 4)
        self.assertEqual(told[0], (1, 4, [("on", "t"), ("on", "u")], [("on", "t")]))
        self.assertEqual(house.places(1, 5), [("on", "v")])

    def check(self, error, deed):
        before = all_of(self.house)
        self.assertEqual(raised(deed), error)
        self.assertEqual(all_of(self.house), before)

    def test_errors_of_records(self):
        house = self.house
        for record, error in [((3, "mislaid", 1, "s"), invalid("record")), ((-1, "taken", 1, "s"), invalid("record")),
                              ((3, "taken", 1, "w"), unknown("w")), ((3, "taken", 2, "s"), unknown(2)),
                              ((3, "packed", 1, "t1"), unknown("t1"))]:
            self.check(error, lambda: house.note(record))
            self.check(error, lambda: house.take(Book({"h": 9}, [(5, "loaded", 1, "t1")]), Book({}, [record])))
        self.check(invalid("record"), lambda: house.take(Book({}, [(4, "odd", 1, "s"), (5, "taken", 9, "s")])))
        self.check(unknown(9), lambda: house.take(Book({}, [(4, "odd", 1, "s"), (3, "taken", 9, "s")])))

    def test_contradiction(self):
        house = self.house
        wrong = (20, "seen", 1, "n")
        self.check(CONTRADICTION, lambda: house.note(wrong))
        self.check(CONTRADICTION, lambda: house.take(Book({"h": 5}, [wrong])))
        self.check(CONTRADICTION, lambda: house.note((4, "taken", 1, "s")))
        house.note(LANDED)
        self.check(CONTRADICTION, lambda: house.note((9, "landed", 1, "n")))
        row = row_house()
        row.accept("3", "a", 0)
        self.assertEqual(raised(row.hear, "k", 9), CONTRADICTION)
        self.assertTrue(row.book == Book())
        row.take(Book({"k": 9}, [(4, "landed", 1, "b")]))
        self.assertEqual(raised(row.strike, (4, "landed", 1, "b")), CONTRADICTION)
        self.assertEqual((row.book.struck, row.places(1, 4)), ([], [("on", "u")]))

    def test_wrong_records_come_ahead_of_contradiction(self):
        house = self.house
        self.check(unknown("w"), lambda: house.take(Book({}, [(20, "seen", 1, "n"), (21, "seen", 1, "w")])))

    def test_too_many(self):
        house = row_house(slips=9)
        for _ in range(2):
            house.accept("3", "a", 0)
        loaded = [(2, "loaded", 1, "t"), (2, "loaded", 2, "t")]
        house.take(Book({}, loaded))
        sizes = [most for most in range(1, 60) if raised(tried, house, lambda desk: desk.change_most(most)) is None]
        house.most = sizes[0]
        before = all_of(house)
        for deed in [lambda: house.strike(loaded[0]), lambda: house.take(Book({}, [], loaded))]:
            error = raised(deed)
            self.assertEqual((error[0], error[1]["limit"]), ("TooMany", sizes[0]))
            self.assertEqual(all_of(house), before)
        # TooMany comes ahead of Contradiction, and a wrong record ahead of TooMany.
        error = raised(house.take, Book({}, [(44, "seen", 1, "a")], loaded))
        self.assertEqual(error[0], "TooMany")
        self.assertEqual(raised(house.take, Book({}, [(44, "odd", 1, "a")], loaded)), invalid("record"))

    def test_struck_records_are_not_looked_at(self):
        house = self.house
        for record in [(3, "mislaid", 1, "s"), (-1, "odd", 9, "w"), (3, "taken", 2, "s")]:
            self.assertEqual(house.strike(record), [])
            self.assertEqual(house.note(record), [])
            self.assertEqual(house.take(Book({}, [record], [record])), [])
        self.assertEqual(len(house.book), 0)

    def test_the_books_that_are_taken_and_returned(self):
        other = Book({"h": 9}, [LANDED])
        self.house.take(other)
        self.house.strike(LANDED)
        self.assertTrue(other == Book({"h": 9}, [LANDED]))
        other.note((9, "landed", 1, "n"))
        self.house.book.note((9, "landed", 1, "n"))
        self.house.book.hear("h", 99)
        self.assertTrue(self.house.book == Book({"h": 9}, [LANDED], [LANDED]))

    def test_the_lists_are_new(self):
        changes = self.house.note(LANDED)
        changes[0][2].clear()
        changes.clear()
        self.house.journal.clear()
        self.house.places(1, 8).clear()
        self.house.settle().append("x")
        self.assertEqual((len(self.house.journal), self.house.places(1, 8), self.house.settle()), (1, [AT_N], []))


class TellTest(unittest.TestCase):
    def test_all_that_the_house_tells(self):
        house = row_house(slips=1, wait=1)
        house.accept("3", "a", 0, goods=[Good("1", 50, "x")])
        house.accept("3", "a", 1)
        house.hear("k", 3)
        world, book = house.world, house.book
        told = Telling(world, book)
        for unit in world.units:
            for tick in [-1, 0, 2, 4, 5, 9, 50]:
                self.assertEqual(house.places(unit, tick), places(world, book, unit, tick))
        self.assertEqual(house.course_count, told.course_count)
        for ticket in world.tickets:
            self.assertEqual(house.day_sure(ticket), day_sure(world, ticket, book=book))
        for account in [H, K, SENDER, ("house", "w")]:
            self.assertEqual(house.between(account), balance_range(world, book, house.prices, account))
            self.assertEqual(house.balance(account), balance(booked(world, book, house.prices), account))
        self.assertEqual(house.between(K), (6, 14))

    def test_unknown_units_and_tickets(self):
        network = Network(small_network().sites, small_network().trips, [Closing("k", "s", "n", 4)])
        house = House(network, small_sorting())
        house.accept("21", "s", 3)
        for unit in [2, 0, "s", "t1"]:
            self.assertEqual(raised(house.places, unit, 3), unknown(unit))
            self.assertEqual(raised(house.day_sure, unit), unknown(unit))
        self.assertEqual(raised(house.day_sure, "k"), unknown("k"))
        self.assertEqual(house.places("k", 4), [("at", "s")])

    def test_day_sure_with_the_book(self):
        house = row_house(slips=1)
        house.accept("3", "a", 0)
        self.assertIsNone(house.day_sure(1))
        house.take(Book({}, [(2, "loaded", 1, "t"), (4, "loaded", 1, "u")]))
        self.assertEqual(house.day_sure(1), 0)

    def test_settle(self):
        # The house k runs b and the house m runs d; the parcels of h and m ride on trips of k.
        sites = [Site("a", "h", "x", "1"), Site("b", "k", "x", "2"), Site("c", "k", "x", "3"), Site("d", "m", "x", "4")]
        trips = [Trip("t", "a", "b", 1, 4), Trip("s", "d", "b", 1, 4), Trip("u", "b", "c", 6, 9, toll=7)]
        sorting = Sorting({"a": Table([("3", "b")]), "d": Table([("3", "b")]), "b": Table([("3", "c")])})
        house = House(Network(sites, trips, []), sorting)
        house.accept("3", "a", 0)
        self.assertEqual(house.settle(), [("h", "k", 7)])
        house.accept("3", "d", 0)
        house.accept("3", "d", 0)
        house.accept("3", "b", 0)
        self.assertEqual(house.settle(), [("h", "k", 7), ("m", "k", 14)])
        before = all_of(house)
        house.settle().clear()
        self.assertEqual(all_of(house), before)
        house.note((4, "seen", 1, "b"))
        self.assertEqual(house.settle(), [("h", "k", 7), ("m", "k", 14)])


class JournalTest(unittest.TestCase):
    """Point 91: what is voided and posted behind each deed, and in which order."""

    POSTAGE = (0, SENDER, H, 403, "postage", 1)

    def setUp(self):
        self.house = row_house(prices=Prices(Toll(), Postage(400, 3)))
        self.house.accept("3", "a", 0)

    def check(self, *entries):
        self.assertEqual(self.house.journal, list(entries))
        posted = []
        for word, posting in self.house.journal:
            if word == "post":
                posted.append(posting)
            else:
                posted.remove(posting)
        told = booked(self.house.world, self.house.book, self.house.prices)
        self.assertEqual(sorted(posted), sorted(told))
        for account in [H, K, SENDER]:
            self.assertEqual(self.house.balance(account), balance(told, account))

    def test_accept_posts_what_is_sure_at_ticks_to_come(self):
        self.check(("post", self.POSTAGE))
        self.house.accept("1", "b", 7)
        self.check(("post", self.POSTAGE), ("post", (7, SENDER, K, 403, "postage", 2)))

    def test_note_and_strike(self):
        landed, toll = (4, "landed", 1, "b"), (4, H, K, 6, "toll", 1)
        self.house.note(landed)
        self.check(("post", self.POSTAGE), ("post", toll))
        self.house.note(landed)
        self.check(("post", self.POSTAGE), ("post", toll))
        self.house.strike(landed)
        self.check(("post", self.POSTAGE), ("post", toll), ("void", toll))
        self.house.note((5, "loaded", 1, "v"))
        self.check(("post", self.POSTAGE), ("post", toll), ("void", toll), ("post", (5, H, K, 7, "toll", 1)))

    def test_an_overdue_record(self):
        late, early = (5, H, K, 7, "toll", 1), (4, H, K, 6, "toll", 1)
        self.house.hear("k", 4)
        self.check(("post", self.POSTAGE), ("post", late))
        self.house.note((4, "landed", 1, "b"))
        self.check(("post", self.POSTAGE), ("post", late), ("void", late), ("post", early))

    def test_take(self):
        toll = (4, H, K, 6, "toll", 1)
        self.house.take(Book({"h": 5}, [(4, "landed", 1, "b")]), Book({"k": 5}))
        self.check(("post", self.POSTAGE), ("post", toll))
        self.house.take(Book({}, [(0, "taken", 1, "a")], [(4, "landed", 1, "c")]))
        self.check(("post", self.POSTAGE), ("post", toll))

    def test_voids_ahead_of_posts_each_by_tick_word_and_ticket(self):
        house = row_house()
        for ticket in range(1, 12):
            house.accept("3", "a", 1)
            # Nine parcels ride on the first trip; who has no room in it surely comes a day later.
            words = ["postage"] if ticket < 10 else ["postage", "toll"]
            told = house.journal[-len(words):]
            self.assertEqual([(word, posting[4], posting[5]) for word, posting in told],
                             [("post", word, ticket) for word in words])
        before = len(house.journal)
        house.note((4, "landed", 1, "b"))
        early = [(4, H, K, 6, "toll", ticket) for ticket in range(1, 10)]
        self.assertEqual(house.journal[before:], [("post", posting) for posting in early])
        before = len(house.journal)
        house.take(Book({}, [(5, "landed", 1, "b")], [(4, "landed", 1, "b")]))
        late = [(5, H, K, 7, "toll", ticket) for ticket in range(1, 10)]
        self.assertEqual(house.journal[before:],
                         [("void", posting) for posting in early] + [("post", posting) for posting in late])

    def duty_house(self, free=0, rate=100):
        sites = [Site("a", "h", "x", "1"), Site("b", "k", "y", "2", sittings=[9], rounds=[20])]
        network = Network(sites, [Trip("t", "a", "b", 5, 9)], [])
        sorting = Sorting({"a": Table([("2", "b")]), "b": Table([("2", HERE)])})
        return House(network, sorting, tariffs={"y": Tariff("y", [("1", ANY, rate)], free=free)})

    def test_accept_voids_and_posts_duties_of_the_same_consignment(self):
        house = self.duty_house()
        duty = (9, SENDER, ("land", "y"), 2, "duty", 1)
        house.accept("2", "a", 0, goods=[Good("12", 15, "x")])
        house.hear("h", 10)
        self.assertEqual(house.journal, [("post", self.POSTAGE), ("post", duty)])
        # Of 24 cents the duty is 2: one cent for each, as the greater remainder is that of the second parcel.
        house.accept("9", "a", 11, goods=[Good("12", 9, "x")])
        self.assertEqual(house.journal[2:], [
            ("void", duty), ("post", (9, SENDER, ("land", "y"), 1, "duty", 1)),
            ("post", (11, SENDER, H, 403, "postage", 2))])
        before = house.journal
        house.accept("9", "a", 11, goods=[Good("12", 50, "x")], receiver="other")
        house.accept("9", "a", 24, goods=[Good("12", 50, "x")])
        self.assertEqual([entry[0] for entry in house.journal[len(before):]], ["post", "post"])

    def test_accept_posts_duties_at_ticks_that_are_past(self):
        house = self.duty_house(free=100)
        house.accept("2", "a", 0, goods=[Good("12", 60, "x")])
        house.hear("h", 10)
        self.assertEqual(house.journal, [("post", self.POSTAGE)])
        house.accept("9", "a", 11, goods=[Good("12", 60, "x")])
        self.assertEqual(house.journal[1:], [
            ("post", (9, SENDER, ("land", "y"), 6, "duty", 1)), ("post", (11, SENDER, H, 403, "postage", 2))])

    def test_an_error_leaves_no_entry(self):
        before = self.house.journal
        self.assertEqual(raised(self.house.note, (4, "landed", 1, "c")), CONTRADICTION)
        self.assertEqual(raised(self.house.accept, "3", "a", 3, days=0)[0], "Refused")
        self.assertEqual(raised(self.house.change_most, 1)[0], "TooMany")
        self.assertEqual(self.house.journal, before)


class MostTest(unittest.TestCase):
    def setUp(self):
        self.house = small_house()
        self.house.accept("21", "s", 3)

    def assign(self, value):
        self.house.most = value

    def test_below_1(self):
        for value in [0, -1, -500]:
            for call in [self.assign, self.house.change_most]:
                self.assertEqual(raised(call, value), invalid("most"))
                self.assertEqual(self.house.most, 500)

    def test_too_small_and_larger(self):
        for call in [self.assign, self.house.change_most]:
            for value in [2, 1000, 7]:
                self.assertIsNone(call(value))
                self.assertEqual(self.house.most, value)
            self.assertEqual(raised(call, 1), too_many(1, 8))
            self.assertEqual(self.house.most, 7)

    def test_the_limit_counts_from_then_on(self):
        self.house.note(LANDED)
        self.house.most = 1
        self.assertEqual(raised(self.house.strike, LANDED), too_many(1, 8))
        self.assertEqual(self.house.places(1, 9), [AT_N])
        self.house.change_most(2)
        self.assertEqual(len(self.house.strike(LANDED)), 2)
        self.assertEqual(len(self.house.journal), 1)

    def test_the_limit_of_the_constructor(self):
        self.assertEqual(raised(small_house(most=1).accept, "21", "s", 3), too_many(1, 8))
        self.assertIsNone(raised(small_house(most=2).accept, "21", "s", 3))


class SmallWorldsTest(unittest.TestCase):
    def test_stories(self):
        """Houses that accept and learn at random, against the functions of the other modules."""
        chance = random.Random(91)
        deeds = {}
        for _ in range(60):
            world = made_story_world(chance)
            house = House(world.network, world.sorting, tariffs=world.tariffs, slips=world.slips, wait=world.wait)
            for parcel in world.parcels:
                options = {"weight": parcel.weight, "sender": parcel.sender, "goods": parcel.goods}
                if chance.random() < 0.3:
                    options["days"] = parcel.days
                self.accept(house, parcel, options, deeds)
                branches = plain_courses(house.world)
                if len(branches) > 60:
                    break
                if house.world.tickets and (parcel is world.parcels[-1] or chance.random() < 0.3):
                    told = run(house.world, chance.choice(branches).course())
                    book = truth(house.world, told, chance.randint(0, 12)) + made_book(chance, house.world, branches)
                    self.learn(house, self.parts_of(chance, book), deeds)
        words = ["post", "void", "Refused", "Late", "Contradiction"]
        self.assertGreater(min(deeds.get(word, 0) for word in words), 3, deeds)

    def accept(self, house, parcel, options, deeds):
        new = Parcel(len(house) + 1, parcel.address, parcel.start, parcel.taken, **options)
        world, ticket, before = house.world, len(house) + 1, house.journal
        known = list(house.book.heard.values()) + [record[0] for record in house.book.valid]
        error = None
        if known and max(known) >= new.taken:
            error = ("Late", {"tick": max(known)})
        elif new.days is not None:
            word, paper = promise_answer(world.added(new), ticket, new.due // 24)
            error = None if word == "given" else ("Refused", {"days": quote(world, new), "course": paper})
        self.assertEqual(raised(house.accept, parcel.address, parcel.start, parcel.taken, **options), error)
        self.assertEqual(len(house), ticket - 1 if error else ticket)
        if error:
            deeds[error[0]] = deeds.get(error[0], 0) + 1
        self.check_journal(house, before, deeds)

    def parts_of(self, chance, book):
        """The entries of the book one by one, and then strikes of some of its records."""
        parts = [Book({}, [record]) for record in book.records]
        parts += [Book({house: tick}) for house, tick in book.heard.items()]
        strikes = [Book({}, [], [record]) for record in book.records if chance.random() < 0.5]
        return chance.sample(parts, len(parts)) + chance.sample(strikes, len(strikes)) + [Book({}, [], book.struck)]

    def learn(self, house, parts, deeds):
        for part in parts:
            before, known = house.journal, house.book
            watch = Watch(house.world, known)
            told = Watch(house.world, known).take(part)
            error = raised(Telling, house.world, known + part)
            self.assertEqual(raised(tried, house, lambda desk: desk.take(part)), error)
            self.assertTrue(house.book == known)
            if error is None:
                self.assertEqual(house.take(part), told)
                self.assertEqual(watch.take(part), told)
            else:
                deeds[error[0]] = deeds.get(error[0], 0) + 1
            self.assertTrue(house.book == (known if error else known + part))
            self.check_journal(house, before, deeds)

    def check_journal(self, house, before, deeds):
        told = booked(house.world, house.book, house.prices)
        was = {}
        for word, posting in before:
            was[posting] = word
        was = [posting for posting, word in was.items() if word == "post"]

        def ordered(postings):
            return sorted(postings, key=lambda posting: (posting[0], posting[4], posting[5]))
        new = [("void", posting) for posting in ordered(was) if posting not in told]
        new += [("post", posting) for posting in ordered(told) if posting not in was]
        self.assertEqual(house.journal, before + new)
        for word, _ in new:
            deeds[word] = deeds.get(word, 0) + 1
        accounts = {account for posting in told for account in posting[1:3]}
        for account in accounts:
            self.assertEqual(house.balance(account), balance(told, account))
            self.assertEqual(house.between(account), balance_range(house.world, house.book, house.prices, account))
        names = {site.house: 0 for site in house.world.network.sites}
        for _, (_, debtor), (_, creditor), cents, _, _ in house_postings(told):
            names[debtor] -= cents
            names[creditor] += cents
        self.assertEqual(house.settle(), payments(names))


if __name__ == "__main__":
    unittest.main()
