"""Points 58 and 86: the order of the errors, for each function and class that takes a world and a book."""

import itertools
import unittest

from everyparcel.books import Book
from everyparcel.charges import Prices
from everyparcel.layers import answer, first_course, layers, reasons, refutes, shows
from everyparcel.ledgers import booked
from everyparcel.network import Closing, Trip
from everyparcel.promises import day_sure, delivery_ticks, is_given, promise_answer
from everyparcel.ranges import balance_range, check_bars, range_answer
from everyparcel.tellings import Telling, places
from everyparcel.watches import Watch
from tests.helpers import invalid, raised, unknown
from tests.test_runs import too_many
from tests.test_ticks import parcels_of, world_of

ACCOUNT = ("house", "h")
# The trip makes two standings at the tick 4, and the closing a unit that is no parcel.
WORLD = world_of(parcels_of(1, 2), [Trip("t", "a", "b", 1, 4, late=2)], [Closing("k", "b", "c", 9)])

# The calls, by what else than wrong records they look at: a wish or a ticket, the limit, and whether a course fits.
WISHES = {
    "layers": (lambda book, wish, most: layers(WORLD, book, wish=wish, most=most), "m"),
    "first_course": (lambda book, wish, most: first_course(WORLD, book, wish=wish, most=most), "m"),
    "answer": (lambda book, wish, most: answer(WORLD, book, wish, most=most), "m"),
    "reasons": (lambda book, wish, most: reasons(WORLD, book, wish, most=most), "m"),
    "refutes": (lambda book, wish, most: refutes(WORLD, book, wish, []), ""),
    "shows": (lambda book, wish, most: shows(WORLD, book, wish, ((("w", 1),), ())), ""),
}
TICKETS = {
    "places": (lambda book, unit, most: places(WORLD, book, unit, 3, most=most), "mc"),
    "delivery_ticks": (lambda book, unit, most: delivery_ticks(WORLD, unit, book=book, most=most), "mc"),
    "is_given": (lambda book, unit, most: is_given(WORLD, unit, 0, book=book, most=most), "mc"),
    "day_sure": (lambda book, unit, most: day_sure(WORLD, unit, book=book, most=most), "mc"),
    "promise_answer": (lambda book, unit, most: promise_answer(WORLD, unit, 0, book=book, most=most), "mc"),
}
PLAIN = {
    "Telling": (lambda book, _, most: Telling(WORLD, book, most=most), "mc"),
    "Watch": (lambda book, _, most: Watch(WORLD, book, most=most), "m"),
    "booked": (lambda book, _, most: booked(WORLD, book, Prices.usual(), most=most), "mc"),
    "balance_range": (lambda book, _, most: balance_range(WORLD, book, Prices.usual(), ACCOUNT, most=most), "mc"),
    "range_answer": (lambda book, _, most: range_answer(WORLD, book, Prices.usual(), ACCOUNT, most=most), "mc"),
    "check_bars": (lambda book, _, most: check_bars(WORLD, book, Prices.usual(), ACCOUNT, 0, 0, []), ""),
}

GOOD_WISHES = [None, ("is", 1, 3, ("on", "t")), ("is", "k", 3, ("not", "")), ("late", 2, 9)]
WRONG_WISHES = {("is", 3, 3, ("on", "t")): 3, ("is", "a", 3, ("on", "t")): "a", ("late", 3, 9): 3,
                ("late", "k", 9): "k"}

# Each wrong record with its error, in the order of point 56.
WRONG = {
    (-1, "taken", 1, "a"): invalid("record"),
    (4, "landed", 1, "w"): unknown("w"),
    (5, "landed", 3, "b"): unknown(3),
    (5, "loaded", 1, "b"): unknown("b"),
    (5, "mislaid", 1, "a"): invalid("record"),
    (6, "packed", 1, "t"): unknown("t"),
    (7, "odd", 9, "w"): invalid("record"),
    (7, "seen", "w", "a"): unknown("w"),
    (8, "aboard", 1, "a"): unknown("a"),
}
# No course has it; it stands behind the layer that is too large, so that both can be told at once.
FALSE = (9, "out", 1, "b")


def cases():
    """Each call with a good unit or wish, wrong ones with the name that is unknown, and what it looks at."""
    for name, (call, looks) in WISHES.items():
        for good in GOOD_WISHES:
            yield name, call, looks, good, WRONG_WISHES
    for name, (call, looks) in TICKETS.items():
        wrong = {3: 3, "a": "a"} if name == "places" else {3: 3, "a": "a", "k": "k"}
        yield name, call, looks, 1, wrong
    yield "places", TICKETS["places"][0], "mc", "k", {3: 3}
    for name, (call, looks) in PLAIN.items():
        yield name, call, looks, None, {}


class OrderTest(unittest.TestCase):
    def test_no_error(self):
        for name, call, _, good, _ in cases():
            self.assertIsNone(raised(call, Book({}, [(1, "loaded", 1, "t")]), good, 2), name)

    def test_each_alone(self):
        for name, call, looks, good, wrong in cases():
            for unit, told in wrong.items():
                self.assertEqual(raised(call, Book(), unit, 2), unknown(told), name)
            for record, error in WRONG.items():
                self.assertEqual(raised(call, Book({}, [record]), good, 2), error, name)
            self.assertEqual(raised(call, Book(), good, 1), too_many(1, 4) if "m" in looks else None, name)
            told = ("Contradiction", {}) if "c" in looks else None
            self.assertEqual(raised(call, Book({}, [FALSE]), good, 2), told, name)

    def test_an_unknown_unit_comes_ahead_of_all(self):
        for name, call, _, _, wrong in cases():
            for unit, told in wrong.items():
                for records in [[record] for record in WRONG] + [[FALSE], [FALSE] + list(WRONG)]:
                    for most in (1, 2):
                        self.assertEqual(raised(call, Book({}, records), unit, most), unknown(told), name)

    def test_the_first_wrong_record_comes_next(self):
        for name, call, _, good, _ in cases():
            for one, other in itertools.combinations(WRONG, 2):
                for most in (1, 2):
                    book = Book({"h": 99}, [other, one, FALSE, (0, "taken", 1, "a")])
                    self.assertEqual(raised(call, book, good, most), WRONG[one], (name, one, other))

    def test_too_many_comes_ahead_of_contradiction(self):
        for name, call, looks, good, _ in cases():
            if "m" in looks:
                self.assertEqual(raised(call, Book({}, [FALSE]), good, 1), too_many(1, 4), name)

    def test_struck_records_are_not_looked_at(self):
        for name, call, looks, good, _ in cases():
            self.assertIsNone(raised(call, Book({}, list(WRONG), list(WRONG) + [FALSE]), good, 2), name)
            for one in WRONG:
                others = [record for record in WRONG if record != one]
                self.assertEqual(raised(call, Book({}, list(WRONG), others), good, 2), WRONG[one], name)

    def test_the_attributes_of_a_contradiction(self):
        self.assertEqual(raised(places, WORLD, Book({}, [FALSE]), 1, 3), ("Contradiction", {}))


class BesideFalseTest(unittest.TestCase):
    """The errors come also where the answer would otherwise be False."""

    def test_tables_courses_and_bars_of_any_form(self):
        for record, error in WRONG.items():
            book = Book({}, [record, FALSE])
            for table in [[], [[]], [[] for _ in range(len(WORLD.ticks) + 1)]]:
                self.assertEqual(raised(refutes, WORLD, book, None, table), error)
            for course in [((), ()), ((("t", 9),), ()), ((), (("t", 1),))]:
                self.assertEqual(raised(shows, WORLD, book, None, course), error)
            for bars in [[], [{}], [{} for _ in range(len(WORLD.ticks) + 1)]]:
                self.assertEqual(raised(check_bars, WORLD, book, Prices.usual(), ACCOUNT, 0, 0, bars), error)

    def test_beyond_the_limit_where_no_limit_is(self):
        trips = [Trip("t", "a", "b", 1, 99, room=99)]
        world = world_of(parcels_of(*range(1, 10)), trips, slips=99)
        self.assertIs(refutes(world, Book(), None, [[] for _ in range(len(world.ticks) + 1)]), False)
        self.assertIs(shows(world, Book(), None, ((), ())), True)
        bars = [{} for _ in range(len(world.ticks) + 1)]
        self.assertIs(check_bars(world, Book(), Prices.usual(), ACCOUNT, 0, 0, bars), False)


if __name__ == "__main__":
    unittest.main()
