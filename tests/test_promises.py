"""Points 72 to 75 and 78: promises of days."""

import random
import unittest

from everyparcel.books import Book
from everyparcel.layers import layers, refutes, shows
from everyparcel.network import Closing, Network, Site, Trip
from everyparcel.parcels import Parcel
from everyparcel.promises import day_sure, delivery_ticks, is_given, promise_answer
from everyparcel.routes import landing_ticks
from everyparcel.sorting import Sorting
from everyparcel.tables import HERE, Table
from everyparcel.worlds import World
from tests.brute import fitting, made_book, small_worlds
from tests.helpers import invalid, raised, unknown
from tests.test_layers import growing_world
from tests.test_runs import too_many
from tests.test_ticks import parcels_of, site_of, world_of
from tests.test_worlds import small_world

CONTRADICTION = ("Contradiction", {})
LATE = ((("t", 1),), ())


def day_world(**options):
    """A parcel lands at b at the tick 46 or 47; there it is delivered at the last tick of day 1, or on day 3."""
    sites = [site_of("b", rounds=[46, 47, 72, 95])]
    lanes = {"a": [("3", "b")], "b": [("3", HERE)]}
    return world_of(parcels_of(1), [Trip("t", "a", "b", 1, 46, late=2)], sites=sites, lanes=lanes, **options)


class DeliveryTest(unittest.TestCase):
    def test_without_a_book(self):
        self.assertEqual(delivery_ticks(small_world(), 1), ([20], False))
        self.assertEqual(delivery_ticks(day_world(), 1), ([46, 47, 72], False))
        self.assertEqual(delivery_ticks(day_world(slips=1), 1), ([46, 47, 72], True))

    def test_with_a_book(self):
        world = day_world(slips=1)
        for record, told in [((1, "loaded", 1, "t"), ([46, 47, 72], False)), ((47, "landed", 1, "b"), ([47], False)),
                             ((46, "aboard", 1, "t"), ([47, 72], False)), ((72, "out", 1, "b"), ([72], False))]:
            self.assertEqual(delivery_ticks(world, 1, book=Book({}, [record])), told)
        self.assertEqual(delivery_ticks(world, 1, book=Book()), ([46, 47, 72], True))
        self.assertEqual(delivery_ticks(world, 1, book=None), ([46, 47, 72], True))

    def test_a_parcel_that_is_never_delivered(self):
        world = world_of(parcels_of(1), [Trip("t", "a", "b", 1, 4)])
        self.assertEqual(delivery_ticks(world, 1), ([], True))
        self.assertIsNone(day_sure(world, 1))
        self.assertIs(is_given(world, 1, 999), False)
        self.assertEqual(promise_answer(world, 1, 999), ("broken", ((), ())))

    def test_a_parcel_that_comes_in_a_bag(self):
        sites = [site_of("b", rounds=[30])]
        closings = [Closing("k", "a", "b", 2)]
        world = world_of([Parcel(1, "2", "a", 0)], [Trip("t", "a", "b", 3, 9)], closings, sites=sites)
        self.assertEqual(delivery_ticks(world, 1), ([30], False))


class GivenTest(unittest.TestCase):
    def test_the_last_tick_of_the_day_and_the_day_before(self):
        world = day_world()
        self.assertEqual([is_given(world, 1, day) for day in range(5)], [False, False, False, True, True])
        self.assertEqual(day_sure(world, 1), 3)
        # At 47, the last tick of day 1, the parcel is out; at 23 it is not.
        book = Book({}, [(47, "landed", 1, "b")])
        self.assertEqual([is_given(world, 1, day, book=book) for day in range(3)], [False, True, True])
        self.assertEqual(day_sure(world, 1, book=book), 1)
        early = Book({}, [(46, "landed", 1, "b")])
        self.assertEqual(day_sure(world, 1, book=early), 1)

    def test_the_first_tick_of_a_day(self):
        world = day_world()
        self.assertEqual(day_sure(world, 1, book=Book({}, [(47, "aboard", 1, "t")])), 3)
        sites = [site_of("a", rounds=[48])]
        world = world_of(parcels_of(1), sites=sites, lanes={"a": [("3", HERE)]})
        self.assertEqual(delivery_ticks(world, 1), ([48], False))
        self.assertEqual((is_given(world, 1, 1), is_given(world, 1, 2), day_sure(world, 1)), (False, True, 2))

    def test_one_course_in_which_it_is_not_delivered(self):
        world = day_world(slips=1)
        self.assertIsNone(day_sure(world, 1))
        self.assertIs(is_given(world, 1, 99), False)
        self.assertEqual(day_sure(world, 1, book=Book({}, [(5, "aboard", 1, "t")])), 3)


class AnswerTest(unittest.TestCase):
    def test_the_table(self):
        world = day_world()
        word, table = promise_answer(world, 1, 3)
        self.assertEqual(word, "given")
        self.assertEqual(table, layers(world, Book(), wish=("late", 1, 95)))
        self.assertIs(refutes(world, Book(), ("late", 1, 95), table), True)
        self.assertIs(refutes(world, Book(), ("late", 1, 71), table), False)

    def test_the_course(self):
        world = day_world()
        self.assertEqual(promise_answer(world, 1, 1), ("broken", ((("t", 2),), ())))
        self.assertEqual(promise_answer(world, 1, 0), ("broken", ((), ())))
        self.assertIs(shows(world, Book(), ("late", 1, 47), promise_answer(world, 1, 1)[1]), True)
        world = day_world(slips=1)
        self.assertEqual(promise_answer(world, 1, 1), ("broken", ((("t", 2),), ())))
        self.assertEqual(promise_answer(world, 1, 3), ("broken", ((), (("t", 1),))))

    def test_with_a_book(self):
        world, book = day_world(slips=1), Book({}, [(47, "landed", 1, "b")])
        word, table = promise_answer(world, 1, 1, book=book)
        self.assertEqual((word, table), ("given", layers(world, book, wish=("late", 1, 47))))
        self.assertEqual(promise_answer(world, 1, 0, book=book), ("broken", LATE))


class ErrorsTest(unittest.TestCase):
    CALLS = [lambda world, ticket, **more: delivery_ticks(world, ticket, **more),
             lambda world, ticket, **more: is_given(world, ticket, 0, **more),
             lambda world, ticket, **more: day_sure(world, ticket, **more),
             lambda world, ticket, **more: promise_answer(world, ticket, 0, **more)]

    def test_unknown_wrong_too_many_and_contradiction_in_their_order(self):
        world = growing_world()
        wrong, false = (0, "odd", 1, "a"), (99, "out", 1, "b")
        for call in self.CALLS:
            for ticket in [4, "k"]:
                book = Book({}, [wrong, false])
                self.assertEqual(raised(call, world, ticket, book=book, most=1), unknown(ticket))
                self.assertEqual(raised(call, world, ticket), unknown(ticket))
            self.assertEqual(raised(call, world, 1, book=Book({}, [wrong, false]), most=1), invalid("record"))
            self.assertEqual(raised(call, world, 1, book=Book({}, [false]), most=7), too_many(7, 5))
            self.assertEqual(raised(call, world, 1, book=Book({}, [false]), most=8), CONTRADICTION)
            self.assertEqual(raised(call, world, 1, most=7), too_many(7, 5))
            self.assertIsNone(raised(call, world, 1, most=8))

    def test_the_limit_is_that_of_the_layers_without_the_wish(self):
        # The first parcel is surely out on day 0; what makes the layers large comes on day 1.
        parcels = [Parcel(1, "1", "a", 0), Parcel(2, "3", "a", 24), Parcel(3, "3", "a", 24)]
        lanes = {"a": [("1", HERE), ("3", "b")]}
        world = world_of(parcels, [Trip("t", "a", "b", 25, 99)], lanes=lanes, sites=[site_of("a", rounds=[1])], slips=2)
        self.assertEqual(max(len(layer) for layer in layers(world, Book(), wish=("late", 1, 23))), 1)
        for call in self.CALLS:
            self.assertEqual(raised(call, world, 1, most=3), too_many(3, 25))
            self.assertIsNone(raised(call, world, 1, most=4))

    def test_the_limit_is_500_by_default(self):
        trips = [Trip("t", "a", "b", 1, 99, room=99)]
        for many, told in [(8, None), (9, too_many(500, 1))]:
            world = world_of(parcels_of(*range(1, many + 1)), trips, slips=99)
            for call in self.CALLS:
                self.assertEqual(raised(call, world, 1), told)

    def test_what_is_passed_stays(self):
        book = Book({"h": 3}, [(46, "landed", 1, "b")])
        for call in self.CALLS:
            call(day_world(), 1, book=book)
        self.assertTrue(book == Book({"h": 3}, [(46, "landed", 1, "b")]))
        delivery_ticks(day_world(), 1)[0].clear()
        self.assertEqual(delivery_ticks(day_world(), 1)[0], [46, 47, 72])


class SmallWorldsTest(unittest.TestCase):
    def test_small_worlds(self):
        """Everything against a plain reading of all courses, with and without a book."""
        chance = random.Random(73)
        given = 0
        for world, branches in small_worlds(150, 73, least=3):
            for book in [None, made_book(chance, world, branches)]:
                some = branches if book is None else fitting(world, branches, book)
                for ticket in world.tickets if some else []:
                    given += self.check(world, book, some, ticket)
        self.assertGreater(given, 20)

    def check(self, world, book, some, ticket):
        ends = [self.end(branch, ticket) for branch in some]
        ticks = sorted({tick for tick in ends if tick is not None})
        self.assertEqual(delivery_ticks(world, ticket, book=book), (ticks, None in ends))
        least = None if None in ends else max(ends) // 24
        self.assertEqual(day_sure(world, ticket, book=book), least)
        for day in range(3):
            kept = [tick is not None and tick <= 24 * day + 23 for tick in ends]
            self.assertIs(is_given(world, ticket, day, book=book), all(kept))
            wish, known = ("late", ticket, 24 * day + 23), Book() if book is None else book
            answer = promise_answer(world, ticket, day, book=book)
            if all(kept):
                self.assertEqual(answer, ("given", layers(world, known, wish=wish)))
                self.assertIs(refutes(world, known, wish, answer[1]), True)
            else:
                self.assertEqual(answer, ("broken", some[kept.index(False)].course()))
        return least is not None

    def end(self, branch, ticket):
        ends = [event[0] for event in branch.events if event[1] == "out" and event[2] == ticket]
        return ends[0] if ends else None


class StandTest(unittest.TestCase):
    """Point 75."""

    def test_later_parcels_change_no_promise(self):
        chance = random.Random(75)
        given = 0
        for world, _ in small_worlds(120, 75, least=2):
            for count in range(1, len(world.tickets) + 1):
                part = world.first(count)
                for ticket in part.tickets:
                    self.assertEqual(day_sure(part, ticket), day_sure(world, ticket))
                    given += day_sure(part, ticket) is not None
            later = Parcel(999, chance.choice(["1", "2", "33"]), world.network.sites[0].name, chance.randint(0, 6))
            for ticket in world.tickets:
                self.assertEqual(delivery_ticks(world.added(later), ticket), delivery_ticks(world, ticket))
        self.assertGreater(given, 30)

    def test_a_lower_ticket_may_break_one(self):
        sites = [site_of("b", rounds=[5])]
        trips = [Trip("t", "a", "b", 1, 4, room=1)]
        lanes = {"a": [("3", "b")], "b": [("3", HERE)]}
        world = world_of(parcels_of(2), trips, sites=sites, lanes=lanes)
        self.assertEqual(day_sure(world, 2), 0)
        self.assertIsNone(day_sure(world.added(Parcel(1, "3", "a", 0)), 2))
        self.assertEqual(day_sure(world.added(Parcel(3, "3", "a", 0)), 2), 0)

    def test_a_book_only_helps(self):
        chance = random.Random(76)
        for world, branches in small_worlds(80, 76, least=3):
            book = made_book(chance, world, branches)
            if fitting(world, branches, book):
                for ticket in world.tickets:
                    for day in range(2):
                        if is_given(world, ticket, day):
                            self.assertIs(is_given(world, ticket, day, book=book), True)


class AloneTest(unittest.TestCase):
    """Point 78."""

    def test_the_landing_ticks_and_the_rounds(self):
        chance = random.Random(78)
        words = {"here": 0, "none": 0, "loop": 0}
        for _ in range(400):
            world = self.made_world(chance)
            parcel = world.parcels[0]
            path, word = world.sorting.path(parcel.start, parcel.address)
            words[word] += 1
            ticks, never = delivery_ticks(world, 1)
            if word != "here":
                self.assertEqual((ticks, never), ([], True))
                continue
            rounds = world.network.site(path[-1]).rounds
            landings = landing_ticks(world.network, path, parcel.taken)
            if len(path) == 1:
                ends = [[one for one in rounds if one > parcel.taken]]
            else:
                ends = [[one for one in rounds if one >= landing] for landing in landings]
            self.assertEqual(ticks, sorted({end[0] for end in ends if end}))
            if [] in ends or not ends:
                self.assertIs(never, True)
        self.assertGreater(min(words.values()), 20)

    def made_world(self, chance):
        names = "abcd"
        sites = [Site(name, "h", "x", str(code), rounds=sorted(chance.sample(range(40), chance.randint(0, 5))))
                 for code, name in enumerate(names, 1)]
        trips = []
        for number in range(chance.randint(0, 9)):
            start, goal = chance.sample(names, 2)
            leaves = chance.randint(0, 20)
            trips.append(Trip(f"t{number}", start, goal, leaves, leaves + chance.randint(1, 6),
                              late=chance.randint(0, 5), room=chance.choice([0, 1, 9])))
        tables = {name: Table([("3", chance.choice([other for other in names + "cc" if other != name] + [HERE]))])
                  for name in names if chance.random() < 0.9}
        parcel = Parcel(1, "31", chance.choice(names), chance.randint(0, 9))
        return World(Network(sites, trips, []), Sorting(tables), [parcel])


if __name__ == "__main__":
    unittest.main()
