"""Point 69: following a book that grows."""

import random
import unittest

from everyparcel.books import Book
from everyparcel.network import Closing, Trip
from everyparcel.watches import Watch
from tests.brute import fitting, made_book, made_record, places_of, small_worlds
from tests.helpers import invalid, raised, unknown
from tests.test_layers import growing_world
from tests.test_runs import too_many
from tests.test_ticks import parcels_of, site_of, world_of
from tests.test_worlds import small_world

AT_N, ON_T1 = ("at", "n"), ("on", "t1")
LANDED = (8, "landed", 1, "n")


def lagging_world():
    return world_of(parcels_of(1), [Trip("t", "a", "b", 1, 4, late=2)], sites=[site_of("b", lag=0)])


class ChangesTest(unittest.TestCase):
    def setUp(self):
        self.watch = Watch(small_world(), Book())

    def test_note(self):
        told = [(1, 8, [AT_N, ON_T1], [AT_N]), (1, 9, [AT_N, ON_T1], [AT_N])]
        self.assertEqual(self.watch.note(LANDED), told)
        self.assertEqual(self.watch.note(LANDED), [])
        self.assertEqual(self.watch.note((5, "loaded", 1, "t1")), [])
        self.assertEqual(self.watch.book.records, [(5, "loaded", 1, "t1"), LANDED])

    def test_strike(self):
        self.watch.note(LANDED)
        told = [(1, 8, [AT_N], [AT_N, ON_T1]), (1, 9, [AT_N], [AT_N, ON_T1])]
        self.assertEqual(self.watch.strike(LANDED), told)
        self.assertEqual(self.watch.strike(LANDED), [])
        self.assertEqual(self.watch.note(LANDED), [])
        self.assertEqual(self.watch.strike((9, "landed", 1, "n")), [])
        self.assertEqual((self.watch.book.valid, len(self.watch.book.struck)), ([], 2))

    def test_hear(self):
        watch = Watch(lagging_world(), Book())
        at_b, on_t = ("at", "b"), ("on", "t")
        self.assertEqual(watch.hear("h", 3), [])
        self.assertEqual(watch.hear("h", 4), [(1, 4, [at_b, on_t], [on_t])])
        self.assertEqual(watch.hear("h", 4), [])
        self.assertEqual(watch.hear("h", 2), [])
        self.assertEqual(watch.hear("other", 99), [])
        self.assertEqual(watch.hear("h", 5), [(1, 5, [at_b, on_t], [on_t])])
        self.assertEqual(watch.book.heard, {"h": 5, "other": 99})

    def test_take(self):
        self.assertEqual(self.watch.take(), [])
        self.assertEqual(self.watch.take(Book(), Book({"h": 3})), [])
        told = self.watch.take(Book({"h": 9}, [(8, "aboard", 1, "t1")]), Book({}, [(9, "aboard", 1, "t1")]))
        self.assertEqual(told, [(1, 8, [AT_N, ON_T1], [ON_T1]), (1, 9, [AT_N, ON_T1], [ON_T1])])
        told = self.watch.take(Book({}, [], [(9, "aboard", 1, "t1")]))
        self.assertEqual(told, [(1, 9, [ON_T1], [AT_N, ON_T1])])
        self.assertEqual(self.watch.book.heard, {"h": 9})
        self.assertEqual(len(self.watch.book.valid), 1)

    def test_the_order_goes_by_ticket_and_tick(self):
        world = world_of(parcels_of(10, 9, 1), [Trip("t", "a", "b", 1, 4, late=2)])
        watch = Watch(world, Book())
        both, told = [("at", "b"), ("on", "t")], [("at", "b")]
        self.assertEqual(watch.note((4, "landed", 10, "b")),
                         [(ticket, tick, both, told) for ticket in (1, 9, 10) for tick in (4, 5)])

    def test_only_parcels_are_told_of(self):
        world = world_of(parcels_of(1), [Trip("t", "a", "b", 1, 4, late=1)], [Closing("k", "a", "b", 0)])
        watch = Watch(world, Book())
        self.assertEqual(watch.places("k", 4), [("gone", ""), ("on", "t")])
        self.assertEqual(watch.note((4, "landed", "k", "b")), [(1, 4, [("at", "b"), ("on", "t")], [("at", "b")])])
        self.assertEqual(watch.places("k", 4), [("gone", "")])

    def test_a_book_that_no_course_fits(self):
        self.watch.note(LANDED)
        wrong = (20, "seen", 1, "n")
        told = self.watch.note(wrong)
        self.assertEqual(told, [(1, tick, [place], []) for tick, place in [
            (3, ("at", "s")), (5, ON_T1), (8, AT_N), (9, AT_N), (10, AT_N), (20, ("out", "n")), (44, ("out", "n"))]])
        self.assertEqual([self.watch.places(1, tick) for tick in (0, 8, 99)], [[], [], []])
        self.assertEqual(raised(self.watch.places, 2, 8), unknown(2))
        self.assertEqual(self.watch.note((9, "aboard", 1, "t1")), [])
        self.assertEqual(self.watch.strike((9, "aboard", 1, "t1")), [])
        self.assertEqual(self.watch.strike(wrong), [(ticket, tick, [], before) for ticket, tick, before, _ in told])
        self.assertEqual(self.watch.places(1, 8), [AT_N])

    def test_a_watch_of_a_book_that_no_course_fits(self):
        watch = Watch(small_world(), Book({}, [(4, "taken", 1, "s")]))
        self.assertEqual(watch.places(1, 5), [])
        self.assertEqual(len(watch.strike((4, "taken", 1, "s"))), 7)

    def test_places(self):
        watch = Watch(small_world(), Book({}, [LANDED]))
        for tick, told in [(-1, [("not", "")]), (8, [AT_N]), (9, [AT_N]), (30, [("out", "n")])]:
            self.assertEqual(watch.places(1, tick), told)
        for unit in [2, "k"]:
            self.assertEqual(raised(watch.places, unit, 8), unknown(unit))


class ErrorsTest(unittest.TestCase):
    def check_stays(self, watch, deed, error):
        heard, records, struck = watch.book.heard, watch.book.records, watch.book.struck
        before = [watch.places(1, tick) for tick in range(12)]
        self.assertEqual(raised(deed), error)
        self.assertEqual((watch.book.heard, watch.book.records, watch.book.struck), (heard, records, struck))
        self.assertEqual([watch.places(1, tick) for tick in range(12)], before)

    def test_records_that_raise(self):
        for record, error in [((3, "mislaid", 1, "s"), invalid("record")), ((-1, "taken", 1, "s"), invalid("record")),
                              ((3, "taken", 1, "w"), unknown("w")), ((3, "taken", 2, "s"), unknown(2)),
                              ((3, "packed", 1, "t1"), unknown("t1"))]:
            watch = Watch(small_world(), Book({"h": 2}, [LANDED], [(9, "out", 1, "n")]))
            self.check_stays(watch, lambda: watch.note(record), error)
            others = [Book({"h": 9}), Book({}, [(5, "loaded", 1, "t1"), record])]
            self.check_stays(watch, lambda: watch.take(*others), error)
            self.assertEqual(raised(Watch, small_world(), Book({}, [record])), error)

    def test_struck_records_are_not_looked_at(self):
        watch = Watch(small_world(), Book())
        for record in [(3, "mislaid", 1, "s"), (-1, "odd", 9, "w"), (3, "taken", 2, "s")]:
            self.assertEqual(watch.strike(record), [])
            self.assertEqual(watch.note(record), [])
            self.assertEqual(watch.take(Book({}, [record], [record])), [])
            self.assertIsNone(raised(Watch, small_world(), Book({}, [record], [record])))
        watch = Watch(small_world(), Book())
        self.assertEqual(watch.take(Book({}, [(3, "odd", 9, "w")]), Book({}, [], [(3, "odd", 9, "w")])), [])

    def test_the_first_record_of_the_new_book(self):
        watch = Watch(small_world(), Book())
        book = Book({}, [(5, "odd", 1, "s"), (3, "taken", 1, "w"), (4, "taken", 9, "s")])
        self.check_stays(watch, lambda: watch.take(book), unknown("w"))

    def test_too_many(self):
        world = growing_world()
        aboard = (1, "aboard", 1, "t0")
        self.assertEqual(raised(Watch, world, Book(), most=7), too_many(7, 5))
        self.assertIsNone(raised(Watch, world, Book(), most=8))
        watch = Watch(world, Book({}, [aboard]), most=4)
        self.check_stays(watch, lambda: watch.strike(aboard), too_many(4, 5))
        self.check_stays(watch, lambda: watch.take(Book({"h": 3}, [], [aboard])), too_many(4, 5))
        self.assertEqual(watch.note((3, "aboard", 2, "t1")) != [], True)
        self.assertEqual(raised(watch.strike, aboard), None)

    def test_the_limit_is_500_by_default(self):
        trips = [Trip("t", "a", "b", 1, 99, room=99)]
        for many, told in [(8, None), (9, too_many(500, 1))]:
            world = world_of(parcels_of(*range(1, many + 1)), trips, slips=99)
            self.assertEqual(raised(Watch, world, Book()), told)


class CopiesTest(unittest.TestCase):
    def test_the_book_that_is_passed(self):
        book = Book()
        watch = Watch(small_world(), book)
        book.note(LANDED)
        self.assertEqual((watch.book.records, watch.places(1, 8)), ([], [AT_N, ON_T1]))
        watch.note((9, "landed", 1, "n"))
        self.assertEqual(book.records, [LANDED])

    def test_the_book_that_is_returned(self):
        watch = Watch(small_world(), Book())
        watch.book.note(LANDED)
        book = watch.book
        book.hear("h", 9)
        self.assertTrue(watch.book == Book())
        self.assertEqual(watch.note(LANDED)[0][2], [AT_N, ON_T1])
        self.assertEqual(book.records, [])

    def test_the_books_that_are_taken(self):
        one, other = Book({"h": 3}, [LANDED]), Book({}, [], [(3, "taken", 1, "s")])
        watch = Watch(small_world(), Book())
        watch.take(one, other)
        watch.strike(LANDED)
        self.assertTrue(one == Book({"h": 3}, [LANDED]))
        self.assertTrue(other == Book({}, [], [(3, "taken", 1, "s")]))
        one.note((9, "landed", 1, "n"))
        self.assertEqual(watch.book.records, [LANDED])

    def test_the_lists_are_new(self):
        watch = Watch(small_world(), Book())
        changes = watch.note(LANDED)
        changes[0][2].clear()
        changes[0][3].clear()
        changes.clear()
        watch.places(1, 8).clear()
        self.assertEqual(watch.places(1, 8), [AT_N])
        self.assertEqual(watch.strike(LANDED)[0], (1, 8, [AT_N], [AT_N, ON_T1]))


class SmallWorldsTest(unittest.TestCase):
    def deeds(self, chance, world, branches):
        """Changes of a book, as pairs of what a Watch does and what a Book does."""
        book = made_book(chance, world, branches)
        found = [lambda one, record=record: one.note(record) for record in book.records]
        found += [lambda one, record=record: one.strike(record) for record in book.struck]
        found += [lambda one, house=house, tick=tick: one.hear(house, tick) for house, tick in book.heard.items()]
        found += [lambda one, more=made_book(chance, world, branches): one.take(more, book)]
        record = made_record(chance, world)
        if record is not None:
            found += [lambda one: one.note(record), lambda one: one.strike(record)]
        chance.shuffle(found)
        return found

    def test_each_change_by_a_plain_reading(self):
        chance = random.Random(69)
        changes = empty = 0
        for world, branches in small_worlds(80, 69, least=3):
            watch, book = Watch(world, Book()), Book()
            before = self.places(world, branches, book)
            for deed in self.deeds(chance, world, branches):
                deed(book)
                after = self.places(world, branches, book)
                told = [(*key, before[key], after[key]) for key in before if before[key] != after[key]]
                self.assertEqual(deed(watch), told)
                self.assertTrue(watch.book == book)
                new = Watch(world, book)
                for unit in world.units:
                    for tick in range(16):
                        self.assertEqual(watch.places(unit, tick), new.places(unit, tick))
                changes += told != []
                empty += fitting(world, branches, book) == []
                before = after
        self.assertGreater(min(changes, empty), 100)

    def places(self, world, branches, book):
        some = fitting(world, branches, book)
        keys = [(ticket, tick) for ticket in world.tickets for tick in world.ticks]
        return {key: places_of(world, some, *key) for key in keys}


if __name__ == "__main__":
    unittest.main()
