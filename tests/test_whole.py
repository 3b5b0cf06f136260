"""Points 1 to 3 and 93: the whole program over small stories, and that nothing that is passed changes."""

import ast
import copy
import pathlib
import random
import unittest

from everyparcel import apart, layers, ledgers, promises, quotes, ranges, runs, scanners, tellings, truths, watches
from everyparcel.books import Book
from everyparcel.charges import Prices
from everyparcel.house import House
from everyparcel.layers import answer, refutes, shows
from everyparcel.ledgers import balance, ledger
from everyparcel.parcels import Parcel
from everyparcel.promises import is_given
from everyparcel.ranges import check_bars, range_answer
from everyparcel.runs import courses, run
from everyparcel.tellings import Telling
from everyparcel.truths import truth
from tests.brute import (
    does_fit, fitting, made_book, made_story_world, place_of, places_of, plain_balance, plain_postings, small_worlds,
)
from tests.plain import plain_courses

ACCOUNTS = [("house", "h"), ("house", "k"), ("house", "m"), ("sender", "ann"), ("sender", "bob"), ("land", "y"),
            ("land", "w")]
PACKAGE = pathlib.Path(__file__).resolve().parent.parent / "everyparcel"


def house_of(chance, world):
    """A house that has accepted the parcels of the world; what cannot be promised is accepted without a promise."""
    house = House(world.network, world.sorting, tariffs=world.tariffs, slips=world.slips, wait=world.wait)
    for parcel in world.parcels:
        options = {"weight": parcel.weight, "sender": parcel.sender, "goods": parcel.goods}
        try:
            house.accept(parcel.address, parcel.start, parcel.taken, days=parcel.days, **options)
        except ValueError:
            house.accept(parcel.address, parcel.start, parcel.taken, **options)
    return house


class StoryTest(unittest.TestCase):
    """A house that learns, step by step, what honest houses know."""

    def test_stories(self):
        chance = random.Random(93)
        alone = promised = wide = 0
        for _ in range(60):
            house = house_of(chance, made_story_world(chance))
            branches = plain_courses(house.world)
            branch = chance.choice(branches)
            told = run(house.world, branch.course())
            failed = [event for event in branch.events if chance.random() < 0.3]
            delays = {name: chance.choice([0, 0, 1, 4]) for name in "hkm"}
            for now in sorted(chance.sample(range(30), 4)) + [60]:
                late = None if now == 60 else delays
                house.take(truth(house.world, told, now, failed=() if now == 60 else failed, behind=late))
                some = fitting(house.world, branches, house.book)
                self.assertIn(branch, some)
                self.check_places(house, branch, some)
                wide += self.check_accounts(house, branch, some)
                alone += len(some) == 1
            promised += self.check_promises(house, branches)
        self.assertGreater(min(alone, promised, wide), 10)

    def check_places(self, house, branch, some):
        for unit in house.world.units:
            for tick in range(0, 30, 2):
                told = house.places(unit, tick)
                self.assertIn(place_of(house.world, branch, unit, tick), told)
                self.assertEqual(told, places_of(house.world, some, unit, tick))
        self.assertEqual(house.course_count, len(some))

    def check_accounts(self, house, branch, some):
        """The true balance lies between two that are true in a course; with one course, all are the same."""
        wide = 0
        for account in ACCOUNTS:
            least, greatest = house.between(account)
            wide += least < greatest
            true = plain_balance(plain_postings(house.world, branch), account)
            sums = [plain_balance(plain_postings(house.world, other), account) for other in some]
            self.assertEqual((least, greatest), (min(sums), max(sums)))
            self.assertTrue(least <= true <= greatest)
            if len(some) == 1:
                self.assertEqual((least, house.balance(account), greatest), (true, true, true))
                postings = ledger(house.world, run(house.world, branch.course()), house.prices)
                self.assertEqual(balance(postings, account), true)
        return wide

    def check_promises(self, house, branches):
        """Each accepted promise is kept in every course."""
        promised = [parcel for parcel in house.world.parcels if parcel.days is not None]
        for parcel in promised:
            self.assertIs(is_given(house.world, parcel.ticket, parcel.due // 24), True)
            for branch in branches:
                self.assertEqual(place_of(house.world, branch, parcel.ticket, parcel.due)[0], "out")
        return len(promised)

    def test_later_parcels_break_no_promise(self):
        chance = random.Random(94)
        promised = 0
        for _ in range(25):
            house = house_of(chance, made_story_world(chance))
            branch = chance.choice(plain_courses(house.world))
            book = truth(house.world, run(house.world, branch.course()), 5)
            house.take(book)
            before = [house.places(ticket, tick) for ticket in house.world.tickets for tick in range(30)]
            tickets = house.world.tickets
            house.accept("3", "a", 6)
            house.accept("3", "b", 6, goods=[])
            self.assertEqual([house.places(ticket, tick) for ticket in tickets for tick in range(30)], before)
            for parcel in house.world.parcels:
                if parcel.days is not None:
                    promised += 1
                    self.assertIs(is_given(house.world, parcel.ticket, parcel.due // 24, most=5000), True)
        self.assertGreater(promised, 5)


class EqualHousesTest(unittest.TestCase):
    def test_equal_worlds_prices_and_books_by_different_steps(self):
        chance = random.Random(95)
        steps = 0
        for _ in range(40):
            world = made_story_world(chance)
            one, other = house_of(chance, world), house_of(chance, world)
            branch = chance.choice(plain_courses(one.world))
            book = truth(one.world, run(one.world, branch.course()), chance.randint(0, 30),
                         failed=[event for event in branch.events if chance.random() < 0.4])
            book.strike((3, "odd", 7, "w"))
            one.take(book)
            deeds = [lambda record=record: other.note(record) for record in book.records]
            deeds += [lambda record=record: other.strike(record) for record in book.struck]
            parts = [Book({house: tick}, book.records) for house, tick in book.heard.items()]
            deeds += [lambda part=part: other.take(part) for part in parts]
            deeds += [lambda: other.take(book, book), lambda: other.hear("h", 0)] if "h" in book.heard else []
            chance.shuffle(deeds)
            for deed in deeds:
                deed()
                steps += 1
            self.assertTrue(one.book == other.book)
            self.check_alike(one, other)
        self.assertGreater(steps, 200)

    def check_alike(self, one, other):
        self.assertEqual(one.course_count, other.course_count)
        for unit in one.world.units:
            for tick in range(30):
                self.assertEqual(one.places(unit, tick), other.places(unit, tick))
        for ticket in one.world.tickets:
            self.assertEqual(one.day_sure(ticket), other.day_sure(ticket))
        for account in ACCOUNTS:
            self.assertEqual(one.between(account), other.between(account))
            self.assertEqual(one.balance(account), other.balance(account))
        self.assertEqual(one.settle(), other.settle())
        self.assertEqual(self.posted(one), self.posted(other))

    def posted(self, house):
        found = []
        for word, posting in house.journal:
            if word == "post":
                found.append(posting)
            else:
                found.remove(posting)
        return sorted(found)


class MainPromiseTest(unittest.TestCase):
    """Point 2: each yes with a course and each no with a table, and exact ends of each balance."""

    def test_places_promises_and_accounts(self):
        chance = random.Random(2)
        words = {"yes": 0, "no": 0}
        for world, branches in small_worlds(50, 2, least=3, rich=True):
            book = made_book(chance, world, branches)
            some = fitting(world, branches, book)
            if not some:
                continue
            told = Telling(world, book)
            for unit in world.units:
                tick = chance.randint(0, 15)
                for place in {place_of(world, branch, unit, tick) for branch in branches}:
                    wish = ("is", unit, tick, place)
                    word, paper = answer(world, book, wish)
                    words[word] += 1
                    self.assertEqual(word == "yes", place in told.places(unit, tick))
                    check = shows if word == "yes" else refutes
                    self.assertIs(check(world, book, wish, paper), True)
            for account in ACCOUNTS:
                least, greatest, low, high, bars = range_answer(world, book, Prices.usual(), account)
                self.assertIs(check_bars(world, book, Prices.usual(), account, least, greatest, bars), True)
                for course in (low, high):
                    self.assertTrue(does_fit(world, [one for one in branches if one.course() == course][0], book))
        self.assertGreater(min(words.values()), 15)


class UnchangedTest(unittest.TestCase):
    """Point 3: no function changes its arguments."""

    def frozen(self, thing):
        """All that an object is made of, to compare it later."""
        if isinstance(thing, (list, tuple)):
            return [type(thing).__name__] + [self.frozen(one) for one in thing]
        if isinstance(thing, dict):
            return [(self.frozen(key), self.frozen(one)) for key, one in thing.items()]
        if hasattr(thing, "__dict__"):
            return [type(thing).__name__, self.frozen(vars(thing))]
        return thing

    def test_worlds_books_and_prices_stay(self):
        chance = random.Random(3)
        for world, branches in small_worlds(6, 3, least=3, most=12, rich=True):
            book, prices, parcel = made_book(chance, world, branches), Prices.usual(), Parcel(99, "3", "a", 0)
            while not fitting(world, branches, book):
                book = made_book(chance, world, branches)
            ticket, told, account = world.tickets[0], run(world), ("house", "h")
            wish = ("late", ticket, 9)
            given = [world, book, prices, parcel, told]
            before = self.frozen(given)
            copied = copy.deepcopy(before)
            course = branches[-1].course()
            for call in [
                    lambda: layers.layers(world, book, wish=wish), lambda: layers.answer(world, book, wish),
                    lambda: layers.refutes(world, book, wish, layers.layers(world, book)),
                    lambda: layers.meets(world, told, wish),
                    lambda: layers.shows(world, book, wish, course), lambda: layers.reasons(world, book, wish),
                    lambda: layers.first_course(world, book), lambda: tellings.places(world, book, ticket, 9),
                    lambda: tellings.Telling(world, book).possible(), lambda: watches.Watch(world, book).hear("h", 0),
                    lambda: scanners.scanner_paper(world), lambda: scanners.check_scanners(world, ["a"], []),
                    lambda: scanners.blind_pair(world, ["a"]),
                    lambda: promises.promise_answer(world, ticket, 0, book=book),
                    lambda: promises.delivery_ticks(world, ticket), lambda: quotes.quotes(world, parcel, most=9999),
                    lambda: quotes.bears(world, ticket, 0, 1), lambda: quotes.needs(world, ticket, 0),
                    lambda: ledgers.ledger(world, told, prices), lambda: ledgers.booked(world, book, prices),
                    lambda: ranges.range_answer(world, book, prices, account), lambda: runs.count_courses(world),
                    lambda: list(courses(world)), lambda: apart.crowded(world), lambda: truths.truth(world, told, 9),
                    lambda: truths.misfits(world, told, book)]:
                call()
                self.assertEqual(self.frozen(given), copied)


class PackageTest(unittest.TestCase):
    """Points 3 and 93: nothing that depends on more than the arguments."""

    def test_no_clock_no_random_numbers_and_no_files(self):
        allowed = {"heapq", "math", "itertools", "collections", "everyparcel"}
        for path in sorted(PACKAGE.rglob("*.py")):
            for node in ast.walk(ast.parse(path.read_text(encoding="ascii"))):
                self.assertNotIsInstance(node, ast.Import, path)
                if isinstance(node, ast.ImportFrom):
                    self.assertIn(node.module.split(".")[0], allowed, path)
                if isinstance(node, ast.Name):
                    self.assertNotIn(node.id, ["open", "input", "print", "hash", "id"], path)


if __name__ == "__main__":
    unittest.main()
