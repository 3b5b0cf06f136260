"""Points 56 and 57: books, and how they grow."""

import copy
import itertools
import random
import unittest

from everyparcel.books import Book, exchange, heard_of
from tests.helpers import invalid, mixed_network, raised, unknown

ONE, TWO, THREE = (3, "taken", 1, "a"), (5, "out", 2, "b"), (4, "seen", "k", "c")


def told_by(book):
    return (list(book.heard.items()), book.records, book.struck)


def some_books(many):
    chance = random.Random(57)
    records = [ONE, TWO, THREE, (5, "out", 10, "b")]
    for _ in range(many):
        heard = {house: chance.randint(0, 3) for house in chance.sample("hkm", chance.randint(0, 3))}
        yield Book(heard, chance.sample(records, chance.randint(0, 3)), chance.sample(records, chance.randint(0, 2)))


class BookTest(unittest.TestCase):
    def test_the_empty_book(self):
        for book in [Book(), Book.empty(), Book({}), Book(None, [], []), Book({}, ())]:
            self.assertEqual((told_by(book), book.valid, len(book)), (([], [], []), [], 0))
            self.assertTrue(book == Book.empty())
        self.assertIsInstance(Book.empty(), Book)
        self.assertIsNot(Book.empty(), Book.empty())

    def test_the_parts(self):
        book = Book({"k": 4, "h": 0}, [TWO, ONE, THREE, ONE], [THREE, (1, "out", 7, "z"), THREE])
        self.assertEqual(list(book.heard.items()), [("h", 0), ("k", 4)])
        self.assertEqual(book.records, [ONE, THREE, TWO])
        self.assertEqual(book.struck, [(1, "out", 7, "z"), THREE])
        self.assertEqual(book.valid, [ONE, TWO])

    def test_the_order(self):
        records = [
            (2, "taken", 9, "a"), (10, "landed", 9, "b"), (10, "loaded", 1, "a"), (10, "loaded", 10, "a"),
            (10, "loaded", 2, "a"), (10, "loaded", "b1", "a"), (10, "loaded", 1, "b"), (10, "seen", 1, "a"),
        ]
        for mixed in [records[::-1], records[3:] + records[:3], sorted(records, key=str)]:
            self.assertEqual(Book({}, mixed).records, records)
            self.assertEqual(Book({}, (), mixed).struck, records)
            self.assertEqual(Book({}, mixed).valid, records)

    def test_no_part_of_a_record_is_looked_at(self):
        record = (-5, "nothing", 0, "")
        self.assertEqual(Book({"": -1}, [record]).records, [record])

    def test_len_and_in(self):
        book = Book({}, [ONE, TWO, (0, "out", 7, "a")], [TWO, THREE])
        self.assertEqual(len(book), 2)
        self.assertEqual([len(Book()), len(Book({"h": 1}, [], [ONE])), len(Book({}, [ONE], [ONE]))], [0, 0, 0])
        self.assertEqual([record in book for record in (ONE, TWO, THREE, (0, "out", 1, "a"))], [True, False, False, False])

    def test_equal_books(self):
        book = Book({"h": 1, "k": 2}, [ONE, TWO], [TWO])
        self.assertTrue(book == Book({"k": 2, "h": 1}, [TWO, ONE, ONE], [TWO, TWO]))
        for other in [Book({"h": 1}, [ONE, TWO], [TWO]), Book({"h": 1, "k": 3}, [ONE, TWO], [TWO]),
                      Book({"h": 1, "k": 2}, [ONE], [TWO]), Book({"h": 1, "k": 2}, [ONE, TWO], []),
                      Book({"h": 1, "k": 2}, [ONE, TWO], [TWO, ONE]), Book()]:
            self.assertFalse(book == other)
            self.assertTrue(book != other)
        self.assertFalse(book == 3)
        self.assertFalse(Book() == {})

    def test_the_valid_records_alone_do_not_make_books_equal(self):
        self.assertFalse(Book({}, [ONE, TWO], [TWO]) == Book({}, [ONE]))

    def test_what_is_passed_and_returned_is_copied(self):
        heard, records, struck = {"h": 1}, [ONE, TWO], [TWO]
        book = Book(heard, records, struck)
        heard["h"] = 5
        records.append(THREE)
        struck.clear()
        book.heard["k"] = 3
        for told in (book.records, book.struck, book.valid):
            told.clear()
        self.assertEqual((told_by(book), book.valid), (([("h", 1)], [ONE, TWO], [TWO]), [ONE]))


class GrowingTest(unittest.TestCase):
    def test_hear(self):
        book = Book()
        for tick, told in [(4, 4), (3, 4), (4, 4), (0, 4), (5, 5)]:
            self.assertIsNone(book.hear("h", tick))
            self.assertEqual(book.heard, {"h": told})
        book.hear("a", 0)
        self.assertEqual(list(book.heard.items()), [("a", 0), ("h", 5)])

    def test_note(self):
        book = Book()
        self.assertIsNone(book.note(TWO))
        book.note(ONE)
        book.note(TWO)
        self.assertEqual((book.records, book.struck), ([ONE, TWO], []))

    def test_strike_after_the_record_is_added(self):
        book = Book({}, [ONE, TWO])
        self.assertIsNone(book.strike(ONE))
        self.assertEqual((book.records, book.struck, book.valid, len(book)), ([ONE, TWO], [ONE], [TWO], 1))
        book.note(ONE)
        self.assertEqual((book.records, book.struck, book.valid), ([ONE, TWO], [ONE], [TWO]))

    def test_strike_before_the_record_is_added(self):
        book = Book()
        book.strike(ONE)
        self.assertEqual((book.records, book.struck, book.valid), ([], [ONE], []))
        book.note(ONE)
        self.assertEqual((book.records, book.struck, book.valid), ([ONE], [ONE], []))
        self.assertNotIn(ONE, book)

    def test_take(self):
        book = Book({"h": 3, "k": 3}, [ONE], [])
        others = [Book({"h": 4, "m": 0}, [TWO], [ONE]), Book({"k": 2, "h": 3}, [TWO, THREE], [THREE])]
        before = [told_by(other) for other in others]
        self.assertIsNone(book.take(*others))
        self.assertEqual(told_by(book), ([("h", 4), ("k", 3), ("m", 0)], [ONE, THREE, TWO], [ONE, THREE]))
        self.assertEqual([told_by(other) for other in others], before)

    def test_take_of_no_book_and_of_the_book_itself(self):
        book = Book({"h": 3}, [ONE, TWO], [TWO])
        before = told_by(book)
        self.assertIsNone(book.take())
        book.take(book)
        book.take(book, book)
        self.assertEqual(told_by(book), before)

    def test_what_was_taken_stays_apart(self):
        book, other = Book(), Book({"h": 1}, [ONE])
        book.take(other)
        other.note(TWO)
        other.hear("h", 9)
        book.strike(THREE)
        self.assertEqual(told_by(book), ([("h", 1)], [ONE], [THREE]))
        self.assertEqual(told_by(other), ([("h", 9)], [ONE, TWO], []))


class SumTest(unittest.TestCase):
    def test_both_hold_what_both_hold(self):
        one, other = Book({"h": 3, "k": 1}, [ONE], [TWO]), Book({"h": 2, "m": 0}, [THREE], [ONE])
        told = ([("h", 3), ("k", 1), ("m", 0)], [ONE, THREE], [ONE, TWO])
        self.assertEqual(told_by(one + other), told)
        self.assertEqual(told_by(other + one), told)
        self.assertEqual(told_by(one), ([("h", 3), ("k", 1)], [ONE], [TWO]))
        self.assertEqual(told_by(other), ([("h", 2), ("m", 0)], [THREE], [ONE]))

    def test_the_sum_is_a_new_book(self):
        one, other = Book({}, [ONE]), Book()
        whole = one + other
        whole.note(TWO)
        one.note(THREE)
        other.hear("h", 3)
        self.assertEqual(told_by(whole), ([], [ONE, TWO], []))
        self.assertEqual(one.records, [ONE, THREE])

    def test_the_laws_of_sums(self):
        for one, other, third in itertools.islice(itertools.permutations(some_books(14), 3), 900):
            self.assertTrue(one + other == other + one)
            self.assertTrue((one + other) + third == one + (other + third))
            self.assertTrue(one + one == one)
            taken = one + Book()
            taken.take(other, third)
            self.assertTrue(taken == one + other + third)


class LacksTest(unittest.TestCase):
    def test_in_both_directions(self):
        one = Book({"h": 3, "k": 1, "m": 2}, [ONE, TWO], [TWO])
        other = Book({"h": 2, "k": 1, "z": 7}, [TWO, THREE], [ONE])
        self.assertEqual(told_by(one.lacks(other)), ([("h", 3), ("m", 2)], [ONE], [TWO]))
        self.assertEqual(told_by(other.lacks(one)), ([("z", 7)], [THREE], [ONE]))
        self.assertTrue(one.lacks(one) == Book())

    def test_heard_ticks_that_are_smaller(self):
        one, other = Book({"h": 3}), Book({"h": 4})
        self.assertEqual(one.lacks(other).heard, {})
        self.assertEqual(other.lacks(one).heard, {"h": 4})
        self.assertEqual(Book({"h": 0}).lacks(Book()).heard, {"h": 0})

    def test_it_is_the_least_book_that_is_needed(self):
        for one, other in itertools.permutations(some_books(30), 2):
            lack = one.lacks(other)
            self.assertTrue(other + lack == other + one)
            for part in self.one_less(lack):
                self.assertFalse(other + part == other + one)

    def one_less(self, book):
        """The books that lack just one entry of the book, or have an earlier tick."""
        heard, records, struck = dict(book.heard), book.records, book.struck
        for house in heard:
            yield Book({name: tick for name, tick in heard.items() if name != house}, records, struck)
            yield Book({**heard, house: heard[house] - 1}, records, struck)
        for record in records:
            yield Book(heard, [other for other in records if other != record], struck)
        for record in struck:
            yield Book(heard, records, [other for other in struck if other != record])

    def test_it_is_a_new_book(self):
        one = Book({}, [ONE])
        one.lacks(Book()).note(TWO)
        self.assertEqual(one.records, [ONE])


class PartTest(unittest.TestCase):
    def setUp(self):
        # a is of h1, b of h2, c of h3; the trip a leaves from c, the closing y is at b.
        self.network = mixed_network()
        self.records = [(1, "taken", 1, "a"), (2, "out", 1, "b"), (3, "loaded", 4, "a"), (4, "packed", 1, "y")]
        self.book = Book({"h1": 5, "h3": 6, "zz": 1}, self.records, [self.records[1], (9, "aboard", 1, "a")])

    def test_what_the_house_made(self):
        self.assertEqual(told_by(self.book.part(self.network, "h1")), ([("h1", 5)], [self.records[0]], []))
        self.assertEqual(told_by(self.book.part(self.network, "h2")),
                         ([], [self.records[1], self.records[3]], [self.records[1]]))
        self.assertEqual(told_by(self.book.part(self.network, "h3")),
                         ([("h3", 6)], [self.records[2]], [(9, "aboard", 1, "a")]))

    def test_a_house_that_the_network_does_not_have(self):
        self.assertEqual(told_by(self.book.part(self.network, "zz")), ([("zz", 1)], [], []))
        self.assertTrue(self.book.part(self.network, "other") == Book())

    def test_the_parts_make_the_whole(self):
        whole = Book()
        for house in ["h1", "h2", "h3", "zz"]:
            whole.take(self.book.part(self.network, house))
        self.assertTrue(whole == self.book)

    def test_the_first_record_without_a_house(self):
        wrong = [(7, "taken", 1, "w"), (5, "mislaid", 1, "a"), (-1, "taken", 1, "a"), (6, "packed", 1, "v")]
        errors = {wrong[0]: unknown("w"), wrong[1]: invalid("record"), wrong[2]: invalid("record"), wrong[3]: unknown("v")}
        for many in [1, 2, 3, 4]:
            for some in itertools.combinations(wrong, many):
                for cut in range(many + 1):
                    book = Book({}, self.records + list(some[:cut]), some[cut:])
                    told = raised(book.part, self.network, "h1")
                    self.assertEqual(told, errors[min(some)])

    def test_it_is_a_new_book(self):
        before = told_by(self.book)
        self.book.part(self.network, "h1").note(TWO)
        self.assertEqual(told_by(self.book), before)


class ExchangeTest(unittest.TestCase):
    def setUp(self):
        self.books = [Book({"h": 1}, [ONE]), Book({"h": 2}, [TWO], [ONE]), Book({"k": 1}, [THREE])]

    def test_the_meetings_in_their_order(self):
        one, two, three = self.books
        told = exchange(self.books, [(0, 1), (1, 2)])
        self.assertTrue(told[0] == one + two)
        self.assertTrue(told[1] == told[2] == one + two + three)
        told = exchange(tuple(self.books), ((2, 1), (1, 0)))
        self.assertTrue(told[2] == two + three)
        self.assertTrue(told[0] == told[1] == one + two + three)

    def test_equal_indexes_and_no_meeting(self):
        for meetings in [[], [(1, 1)], [(0, 0), (2, 2), (1, 1)]]:
            told = exchange(self.books, meetings)
            self.assertEqual([told_by(book) for book in told], [told_by(book) for book in self.books])
        self.assertEqual(exchange([], []), [])

    def test_each_book_is_a_new_one(self):
        before = [told_by(book) for book in self.books]
        for meetings in [[], [(0, 1)], [(0, 1), (1, 2), (2, 2)]]:
            told = exchange(self.books, meetings)
            for number, book in enumerate(told):
                others = [told_by(other) for other in told if other is not book]
                self.assertEqual(len(others), 2)
                book.note((9, "out", number, "z"))
                book.hear("h", 99)
                book.strike(THREE)
                self.assertEqual([told_by(other) for other in told if other is not book], others)
            self.assertEqual([told_by(book) for book in self.books], before)

    def test_the_same_book_at_two_places(self):
        told = exchange([self.books[0], self.books[0]], [])
        self.assertIsNot(told[0], told[1])

    def test_wrong_indexes(self):
        for meeting in [(-1, 0), (0, -1), (3, 0), (0, 3), (-1, -1), (3, 3)]:
            for meetings in [[meeting], [(0, 1), meeting], [meeting, (0, 1)]]:
                before = [told_by(book) for book in self.books]
                self.assertEqual(raised(exchange, self.books, meetings), invalid("meeting"))
                self.assertEqual([told_by(book) for book in self.books], before)
                self.assertEqual(raised(heard_of, 3, meetings), invalid("meeting"))
        self.assertEqual(raised(exchange, [], [(0, 0)]), invalid("meeting"))
        self.assertEqual(raised(heard_of, 0, [(0, 0)]), invalid("meeting"))

    def test_heard_of(self):
        self.assertEqual(heard_of(3, [(0, 1), (1, 2)]), [[0, 1], [0, 1, 2], [0, 1, 2]])
        self.assertEqual(heard_of(3, []), [[0], [1], [2]])
        self.assertEqual(heard_of(2, [(1, 1)]), [[0], [1]])
        self.assertEqual(heard_of(0, []), [])
        self.assertEqual(heard_of(12, [(11, 2)])[2], [2, 11])

    def test_the_lists_are_their_own(self):
        meetings = [(0, 1)]
        told = heard_of(2, meetings)
        told[0].append(9)
        self.assertEqual((told[1], meetings), ([0, 1], [(0, 1)]))
        self.assertEqual(heard_of(2, meetings), [[0, 1], [0, 1]])

    def test_books_are_the_sums_of_what_is_heard_of(self):
        chance = random.Random(570)
        for _ in range(150):
            books = list(some_books(4))
            meetings = [(chance.randrange(4), chance.randrange(4)) for _ in range(chance.randint(0, 6))]
            before = copy.deepcopy([told_by(book) for book in books])
            told = exchange(books, meetings)
            for book, indexes in zip(told, heard_of(4, meetings)):
                whole = Book()
                for index in indexes:
                    whole = whole + books[index]
                self.assertTrue(book == whole)
            self.assertEqual([told_by(book) for book in books], before)


if __name__ == "__main__":
    unittest.main()
