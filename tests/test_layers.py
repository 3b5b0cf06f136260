"""Points 61 and 63 to 66: wishes, layers, first courses, closed tables, answers and reasons."""

import random
import unittest

from everyparcel.books import Book
from everyparcel.layers import answer, first_course, layers, meets, reasons, refutes, shows
from everyparcel.network import Closing, Network, Site, Trip
from everyparcel.parcels import Parcel
from everyparcel.runs import count_courses, courses, run
from everyparcel.sorting import Sorting
from everyparcel.standings import first_standing
from everyparcel.worlds import World
from tests.brute import (
    does_fit, does_meet, fits_up_to, fitting, made_book, made_wish, plain_layers, small_worlds, standing_of,
)
from tests.helpers import raised, unknown
from tests.test_runs import too_many
from tests.test_ticks import parcels_of, site_of, world_of
from tests.test_worlds import small_world

AT_S, ON_T1, AT_N, OUT_N, NOT = ("at", "s"), ("on", "t1"), ("at", "n"), ("out", "n"), ("not", "")


def standing(place):
    """The standing of the small world with its parcel there."""
    return (0, (place,), ("x",))


def rows_of(*layered):
    return [[standing(place) for place in places] for places in layered]


ALL = rows_of([NOT], [AT_S], [ON_T1], [AT_N, ON_T1], [AT_N, ON_T1], [AT_N], [OUT_N], [OUT_N])
NONE = [[] for _ in range(8)]


def lone_world():
    """A world without ticks, and so without parcels."""
    return World(Network([Site("a", "h", "x", "1")], [], []), Sorting({}), [])


def growing_world(many=3):
    """So many parcels that leave one after the other and may be mislaid: 1, 1, 2, 2, 4, 4, 8, .. standings."""
    trips = [Trip(f"t{k}", "a", "b", 2 * k + 1, 99) for k in range(many)]
    return world_of([Parcel(k + 1, "3", "a", 2 * k) for k in range(many)], trips, slips=many)


class MeetsTest(unittest.TestCase):
    def setUp(self):
        self.world = small_world()
        self.run = run(self.world)

    def test_is_before_between_at_and_behind_the_ticks(self):
        for tick, place in [(0, NOT), (2, NOT), (3, AT_S), (4, AT_S), (5, ON_T1), (7, ON_T1), (8, AT_N), (19, AT_N),
                            (20, OUT_N), (44, OUT_N), (45, OUT_N), (10 ** 6, OUT_N)]:
            for other in [NOT, AT_S, ON_T1, AT_N, OUT_N, ("at", ""), ("in", "b")]:
                self.assertIs(meets(self.world, self.run, ("is", 1, tick, other)), other == place)

    def test_late(self):
        for tick, late in [(0, True), (3, True), (19, True), (20, False), (43, False), (44, False), (99, False)]:
            self.assertIs(meets(self.world, self.run, ("late", 1, tick)), late)

    def test_none_is_no_condition(self):
        self.assertIs(meets(self.world, self.run, None), True)

    def test_bags(self):
        world = world_of(parcels_of(1, 2), [Trip("t", "a", "b", 5, 7)], [Closing("k", "a", "b", 3)])
        told = run(world)
        for unit, tick, place in [("k", 2, NOT), ("k", 3, ("at", "a")), (1, 3, ("at", "a")), (2, 6, ("on", "t")),
                                  ("k", 7, ("gone", "")), (1, 7, ("at", "b"))]:
            self.assertIs(meets(world, told, ("is", unit, tick, place)), True)
        self.assertIs(meets(world, told, ("is", 1, 3, ("in", "k"))), False)

    def test_unknown_units(self):
        world = world_of(parcels_of(1), closings=[Closing("k", "a", "b", 3)])
        told = run(world)
        for unit in [2, "a", "l"]:
            self.assertEqual(raised(meets, world, told, ("is", unit, 3, AT_S)), unknown(unit))
            self.assertEqual(raised(meets, world, told, ("late", unit, 3)), unknown(unit))
        self.assertEqual(raised(meets, world, told, ("late", "k", 3)), unknown("k"))
        self.assertIsNone(raised(meets, world, told, ("is", "k", 3, AT_S)))

    def test_small_worlds(self):
        chance = random.Random(61)
        for world, branches in small_worlds(80, 61):
            for branch in branches:
                told = run(world, branch.course())
                for _ in range(6):
                    wish = made_wish(chance, world, branches)
                    self.assertIs(meets(world, told, wish), does_meet(world, branch, wish))


class LayersTest(unittest.TestCase):
    def check(self, book, told, **options):
        self.assertEqual(layers(small_world(), book, **options), told)

    def test_the_empty_book(self):
        self.check(Book(), ALL)

    def test_a_world_without_ticks(self):
        world = lone_world()
        first = first_standing(world)
        self.assertEqual(world.ticks, [])
        self.assertEqual(layers(world, Book()), [[first]])
        self.assertEqual(first_course(world, Book()), ((), ()))
        self.assertEqual(answer(world, Book(), None), ("yes", ((), ())))
        self.assertIs(refutes(world, Book(), None, [[]]), False)
        self.assertIs(refutes(world, Book(), None, []), False)

    def test_a_world_with_one_tick(self):
        world = world_of(parcels_of(1))
        self.assertEqual((world.ticks, len(layers(world, Book()))), ([0], 2))
        for tick in [0, 1, 99]:
            self.assertEqual(layers(world, Book(), wish=("is", 1, tick, ("not", ""))), [[first_standing(world)], []])
        self.assertEqual(layers(world, Book(), wish=("is", 1, -1, ("at", "a"))), [[], []])

    def test_a_record_of_an_event(self):
        self.check(Book({}, [(8, "landed", 1, "n")]), rows_of(
            [NOT], [AT_S], [ON_T1], [AT_N], [AT_N], [AT_N], [OUT_N], [OUT_N]))
        self.check(Book({}, [(9, "landed", 1, "n")]), rows_of(
            [NOT], [AT_S], [ON_T1], [AT_N, ON_T1], [AT_N], [AT_N], [OUT_N], [OUT_N]))
        self.check(Book({}, [(5, "loaded", 1, "t1"), (3, "taken", 1, "s")]), ALL)
        self.check(Book({}, [(9, "out", 1, "n")]), ALL[:4] + NONE[4:])

    def test_a_tick_that_the_world_does_not_have(self):
        for kind, where in [("taken", "s"), ("landed", "n"), ("loaded", "t1"), ("out", "n")]:
            for tick in [0, 2, 4, 11, 45]:
                self.check(Book({}, [(tick, kind, 1, where)]), NONE)
                self.check(Book({}, [(tick, kind, 1, where)], [(tick, kind, 1, where)]), ALL)
        world = lone_world()
        self.assertEqual(raised(layers, world, Book({}, [(0, "taken", 1, "a")])), unknown(1))

    def test_positions_before_between_at_and_behind_the_ticks(self):
        self.check(Book({}, [(0, "seen", 1, "s")]), NONE)
        self.check(Book({}, [(2, "aboard", 1, "t1")]), NONE)
        for tick in [3, 4]:
            self.check(Book({}, [(tick, "seen", 1, "s")]), ALL)
            self.check(Book({}, [(tick, "aboard", 1, "t1")]), ALL[:1] + NONE[1:])
        late = rows_of([NOT], [AT_S], [ON_T1], [ON_T1], [AT_N, ON_T1], [AT_N], [OUT_N], [OUT_N])
        self.check(Book({}, [(8, "aboard", 1, "t1")]), late)
        self.check(Book({}, [(9, "seen", 1, "n"), (8, "aboard", 1, "t1")]),
                   late[:4] + rows_of([AT_N], [AT_N], [OUT_N], [OUT_N]))
        for tick in [44, 45, 10 ** 6]:
            self.check(Book({}, [(tick, "seen", 1, "n")]), ALL[:7] + NONE[7:])
        self.check(Book({}, [(19, "seen", 1, "n")]), ALL)

    def test_a_wish_before_between_at_and_behind_the_ticks(self):
        self.check(Book(), ALL, wish=None)
        self.check(Book(), ALL, wish=("is", 1, 2, NOT))
        self.check(Book(), NONE, wish=("is", 1, 2, AT_S))
        self.check(Book(), ALL[:1] + NONE[1:], wish=("is", 1, 3, NOT))
        aboard = rows_of([NOT], [AT_S], [ON_T1], [AT_N, ON_T1], [ON_T1], [AT_N], [OUT_N], [OUT_N])
        self.check(Book(), aboard, wish=("is", 1, 9, ON_T1))
        self.check(Book(), ALL[:5] + NONE[5:], wish=("is", 1, 10, ON_T1))
        self.check(Book(), ALL, wish=("is", 1, 15, AT_N))
        self.check(Book(), ALL[:7] + NONE[7:], wish=("is", 1, 44, AT_N))
        self.check(Book(), ALL[:7] + NONE[7:], wish=("is", 1, 999, AT_N))
        self.check(Book(), ALL, wish=("is", 1, 999, OUT_N))

    def test_the_wish_late(self):
        self.check(Book(), ALL, wish=("late", 1, 19))
        self.check(Book(), ALL[:6] + NONE[6:], wish=("late", 1, 20))
        self.check(Book(), ALL[:6] + NONE[6:], wish=("late", 1, 23))
        self.check(Book(), ALL[:7] + NONE[7:], wish=("late", 1, 99))
        self.check(Book(), ALL, wish=("late", 1, 0))
        world = world_of(parcels_of(1), closings=[Closing("k", "a", "b", 3)])
        for unit in ["k", 2, "z"]:
            self.assertEqual(raised(layers, world, Book(), wish=("late", unit, 3)), unknown(unit))

    def test_landings_at_the_heard_tick_less_the_lag_and_one_tick_later(self):
        """A landing that is not noted, by the tick up to which its house is heard."""
        def told(lag, heard, records=()):
            sites = [Site("s", "h", "x", "1"), Site("n", "k", "x", "2", rounds=[20], lag=lag)]
            network = Network(sites, [Trip("t1", "s", "n", 5, 8, late=2)], [])
            return layers(World(network, small_world().sorting, [Parcel(1, "21", "s", 3)]), Book(heard, records))
        full, last = ALL[:7], rows_of([NOT], [AT_S], [ON_T1], [ON_T1], [ON_T1], [AT_N], [OUT_N])
        middle = rows_of([NOT], [AT_S], [ON_T1], [ON_T1], [AT_N, ON_T1], [AT_N], [OUT_N])
        for lag in [0, 1, 7]:
            for tick, rows in [(7, full), (8, middle), (9, last), (10, rows_of([NOT], [AT_S], [ON_T1], [ON_T1], [ON_T1])
                                                                    + NONE[:2])]:
                self.assertEqual(told(lag, {"k": tick + lag}), rows)
                self.assertEqual(told(lag, {"h": 99, "other": 99}), full)
                self.assertEqual(told(None, {"k": tick + lag}), full)
        noted = (8, "landed", 1, "n")
        self.assertEqual(told(0, {"k": 8}, [noted]), rows_of([NOT], [AT_S], [ON_T1], [AT_N], [AT_N], [AT_N], [OUT_N]))
        self.assertEqual(told(0, {"k": 99}, [noted]), told(0, {"k": 8}, [noted]))

    def test_a_struck_landing_is_missing(self):
        site = site_of("b", lag=0)
        world = world_of(parcels_of(1), [Trip("t", "a", "b", 1, 4)], sites=[site])
        noted = (4, "landed", 1, "b")
        self.assertEqual(layers(world, Book({"h": 4}, [noted]))[-1], [(0, (("at", "b"),), ("x",))])
        self.assertEqual(layers(world, Book({"h": 4}, [noted], [noted]))[-1], [])
        self.assertEqual(layers(world, Book({"h": 3}, [noted], [noted]))[-1], [(0, (("at", "b"),), ("x",))])

    def test_ascending_without_duplicates(self):
        sites = [site_of("a", searches=[3])]
        trips = [Trip("t", "a", "b", 1, 2), Trip("u", "a", "b", 1, 2), Trip("v", "a", "b", 4, 5)]
        world = world_of(parcels_of(1, 2), trips, sites=sites, slips=2)
        for layer in layers(world, Book()):
            self.assertEqual(layer, sorted(set(layer)))
        self.assertGreater(max(len(layer) for layer in layers(world, Book())), 3)

    def test_too_many_at_the_limit_and_one_below_it(self):
        world = growing_world()
        self.assertEqual([len(layer) for layer in layers(world, Book(), most=8)], [1, 1, 2, 2, 4, 4, 8, 8])
        self.assertEqual(world.ticks, [0, 1, 2, 3, 4, 5, 99])
        for most, tick in [(7, 5), (4, 5), (3, 3), (2, 3), (1, 1)]:
            self.assertEqual(raised(layers, world, Book(), most=most), too_many(most, tick))

    def test_too_many_that_lead_to_no_fitting_course(self):
        world = growing_world()
        book = Book({}, [(99, "seen", 1, "c")])
        self.assertEqual(layers(world, book)[-1], [])
        for call in [layers, first_course]:
            self.assertEqual(raised(call, world, book, most=7), too_many(7, 5))
            self.assertIsNone(raised(call, world, book, most=8))
        self.assertEqual(raised(answer, world, book, None, most=7), too_many(7, 5))
        self.assertEqual(answer(world, book, None, most=8)[0], "no")

    def test_a_wish_or_a_book_that_makes_the_layers_smaller(self):
        world = growing_world()
        wish = ("is", 1, 1, ("on", "t0"))
        self.assertEqual([len(layer) for layer in layers(world, Book(), wish=wish, most=4)], [1, 1, 1, 1, 2, 2, 4, 4])
        self.assertEqual(raised(layers, world, Book(), most=4), too_many(4, 5))
        self.assertEqual(raised(layers, world, Book(), wish=wish, most=3), too_many(3, 5))
        self.assertEqual(first_course(world, Book(), wish=wish, most=4), ((), ()))
        self.assertEqual(answer(world, Book(), wish, most=4), ("yes", ((), ())))
        self.assertIsNone(raised(layers, world, Book({}, [(1, "loaded", 1, "t0")]), most=4))

    def test_the_limit_is_500_by_default(self):
        trips = [Trip("t", "a", "b", 1, 99, room=99)]
        for many, told in [(8, None), (9, too_many(500, 1))]:
            world = world_of(parcels_of(*range(1, many + 1)), trips, slips=99)
            self.assertEqual(raised(layers, world, Book()), told)
            self.assertEqual(raised(first_course, world, Book()), told)
            self.assertEqual(raised(answer, world, Book(), None), told)
            self.assertEqual(raised(reasons, world, Book(), None), told)

    def test_the_lists_are_new(self):
        world, book = small_world(), Book({}, [(8, "landed", 1, "n")])
        told = layers(world, book)
        told[1].clear()
        told.pop()
        self.assertEqual(len(layers(world, book)), 8)
        self.assertEqual(layers(world, book)[1], [standing(AT_S)])
        self.assertEqual(book.records, [(8, "landed", 1, "n")])

    def test_small_worlds(self):
        """Layers, their limit, first courses and answers against a plain reading of all courses."""
        chance = random.Random(63)
        words = {"yes": 0, "no": 0}
        for world, branches in small_worlds(250, 63, least=3):
            for _ in range(3):
                book, wish = made_book(chance, world, branches), made_wish(chance, world, branches)
                told = plain_layers(world, branches, book, wish)
                self.assertEqual(layers(world, book, wish=wish), told)
                self.check_limit(world, book, wish, told)
                some = fitting(world, branches, book, wish)
                self.assertEqual(first_course(world, book, wish=wish), some[0].course() if some else None)
                found = answer(world, book, wish)
                self.assertEqual(found, ("yes", some[0].course()) if some else ("no", told))
                words[found[0]] += 1
                self.assertEqual(told[-1] == [], some == [])
        self.assertGreater(min(words.values()), 150)

    def check_limit(self, world, book, wish, told):
        sizes = [len(layer) for layer in told]
        for most in {1, 2, max(sizes) - 1, max(sizes)} - {0, -1}:
            large = [world.ticks[number - 1] for number, size in enumerate(sizes) if size > most]
            error = too_many(most, large[0]) if large else None
            self.assertEqual(raised(layers, world, book, wish=wish, most=most), error)
            self.assertEqual(raised(first_course, world, book, wish=wish, most=most), error)
            self.assertEqual(raised(answer, world, book, wish, most=most), error)


class FirstCourseTest(unittest.TestCase):
    def test_the_order_of_the_courses(self):
        trips = [Trip("t", "a", "b", 1, 2, late=1), Trip("u", "a", "b", 3, 5, late=1)]
        world = world_of(parcels_of(1) + parcels_of(2, taken=3), trips, slips=1)
        some = list(courses(world))
        for number, course in enumerate(some):
            wishes = [("is", 1, tick, run(world, course).position(1, tick)) for tick in range(7)]
            wishes += [("is", 2, tick, run(world, course).position(2, tick)) for tick in range(7)]
            for wish in wishes:
                first = [one for one in some if meets(world, run(world, one), wish)][0]
                self.assertEqual(first_course(world, Book(), wish=wish), first)

    def test_no_course(self):
        self.assertIsNone(first_course(small_world(), Book(), wish=("late", 1, 20)))
        self.assertIsNone(first_course(small_world(), Book({}, [(3, "out", 1, "n")])))

    def test_too_many_courses_to_go_through(self):
        trips = [Trip(f"t{k}", "a", "b", 2 * k, 2 * k + 1, late=1) for k in range(40)]
        world = world_of([Parcel(k + 1, "3", "a", 2 * k) for k in range(40)], trips)
        self.assertEqual(count_courses(world), 2 ** 40)
        book = Book({}, [(2 * k + 2, "landed", k + 1, "b") for k in range(0, 40, 2)])
        late = tuple((f"t{k}", 1) for k in range(0, 40, 2))
        self.assertEqual(first_course(world, book), (late, ()))
        self.assertEqual(first_course(world, book, wish=("is", 40, 79, ("on", "t39"))), (late + (("t39", 1),), ()))
        word, table = answer(world, book, ("is", 39, 77, ("at", "b")))
        self.assertEqual(word, "no")
        self.assertIs(refutes(world, book, ("is", 39, 77, ("at", "b")), table), True)
        self.assertEqual(reasons(world, book, ("is", 39, 77, ("at", "b"))), [(78, "landed", 39, "b")])


class RefutesTest(unittest.TestCase):
    def setUp(self):
        self.world = small_world()
        self.wish = ("late", 1, 23)
        self.table = layers(self.world, Book(), wish=self.wish)

    def check(self, table, told, book=None, wish=("late", 1, 23)):
        self.assertIs(refutes(self.world, Book() if book is None else book, wish, table), told)

    def test_the_layers_where_no_course_fits(self):
        self.check(self.table, True)

    def test_more_standings_than_are_needed(self):
        # The last two lists stay empty: what would be late in the sixth would have to be in the seventh.
        self.check(ALL[:6] + NONE[:2], True)
        self.check(rows_of([NOT]) + self.table[1:], True)
        book = Book({}, [(8, "landed", 1, "n")])
        self.check(ALL[:6] + NONE[:2], True, book)

    def test_the_number_of_the_lists(self):
        self.check(self.table[:-1], False)
        self.check(self.table + [[]], False)
        self.check([], False)
        self.check(self.table[1:], False)

    def test_a_standing_left_out_at_each_layer(self):
        for number, row in enumerate(self.table):
            for one in row:
                table = [list(rows) for rows in self.table]
                table[number].remove(one)
                self.check(table, False)

    def test_a_last_list_that_is_not_empty(self):
        self.check(self.table[:-1] + rows_of([OUT_N]), False)
        self.check(ALL, False)
        self.check(ALL, False, wish=None)

    def test_a_course_that_fits_is_never_refuted(self):
        self.check(ALL[:7] + NONE[:1], False, wish=None)
        self.check(NONE, False)
        self.check(NONE, False, wish=None)

    def test_nothing_passes_at_layer_0(self):
        self.check(NONE, True, wish=("is", 1, 0, AT_S))
        self.check(NONE, True, Book({}, [(4, "landed", 1, "n")]), wish=None)
        self.check(rows_of([NOT]) + NONE[1:], False, Book({}, [(4, "landed", 1, "n")]), wish=None)

    def test_another_book_or_another_wish(self):
        book = Book({}, [(9, "landed", 1, "n")])
        table = layers(self.world, book, wish=("is", 1, 8, AT_N))
        self.check(table, True, book, ("is", 1, 8, AT_N))
        self.check(table, False, None, ("is", 1, 8, AT_N))
        self.check(table, False, book, None)

    def test_beyond_the_limit_of_layers(self):
        world = growing_world(10)
        wish = ("is", 1, 99, ("at", "c"))
        self.assertEqual(raised(layers, world, Book(), wish=wish), too_many(500, 17))
        table = layers(world, Book(), wish=wish, most=5000)
        self.assertEqual(max(len(row) for row in table), 1024)
        self.assertIs(refutes(world, Book(), wish, table), True)
        self.assertIs(refutes(world, Book(), wish, table[:-2] + [table[-2][1:]] + table[-1:]), False)

    def test_what_is_passed_stays(self):
        table = [list(row) for row in self.table]
        self.check(table, True)
        self.assertEqual(table, self.table)

    def test_small_worlds(self):
        """Exactly one of a course and a closed table is found, and no table that lacks something is closed."""
        chance = random.Random(65)
        told = 0
        for world, branches in small_worlds(150, 65, least=3):
            for _ in range(3):
                book, wish = made_book(chance, world, branches), made_wish(chance, world, branches)
                word, paper = answer(world, book, wish)
                rows = plain_layers(world, branches, book, wish)
                self.assertIs(refutes(world, book, wish, rows), word == "no")
                if word == "yes":
                    self.assertIs(shows(world, book, wish, paper), True)
                    self.assertIs(refutes(world, book, wish, rows[:-1] + [[]]), False)
                    continue
                told += 1
                self.assertIs(refutes(world, book, wish, paper), True)
                self.assertFalse([branch for branch in branches if shows(world, book, wish, branch.course())])
                wide = plain_layers(world, branches, Book())
                full = [sorted(set(row + more)) if chance.random() < 0.5 else row for row, more in zip(rows, wide)]
                self.assertIs(refutes(world, book, wish, full), self.is_closed(world, book, wish, branches, full))
                for number, row in enumerate(rows):
                    for one in row:
                        table = rows[:number] + [[other for other in row if other != one]] + rows[number + 1:]
                        self.assertIs(refutes(world, book, wish, table), False)
        self.assertGreater(told, 100)

    def is_closed(self, world, book, wish, branches, table):
        """Point 65 by the steps of all courses: each step of a course from a standing of the table."""
        for branch in branches:
            for layer in range(len(world.ticks) + 1):
                now = standing_of(world, branch, layer)
                from_table = layer == 0 or standing_of(world, branch, layer - 1) in table[layer - 1]
                if from_table and self.is_step(world, book, wish, branch, layer) and now not in table[layer]:
                    return False
        return table[-1] == []

    def is_step(self, world, book, wish, branch, layer):
        events = [record for record in book.valid if record[1] not in ("seen", "aboard")]
        lost = layer == 0 and any(record[0] not in world.ticks for record in events)
        return not lost and fits_up_to(world, branch, book, wish, layer)


class ShowsTest(unittest.TestCase):
    def test_courses_that_fit_and_do_not(self):
        world, book = small_world(), Book({}, [(9, "landed", 1, "n")])
        late = ((("t1", 1),), ())
        self.assertIs(shows(world, book, None, late), True)
        self.assertIs(shows(world, book, None, ((), ())), False)
        self.assertIs(shows(world, book, ("is", 1, 8, ON_T1), late), True)
        self.assertIs(shows(world, book, ("is", 1, 8, AT_N), late), False)
        self.assertIs(shows(world, Book(), ("is", 1, 8, AT_N), ((), ())), True)
        self.assertIs(shows(world, Book(), None, late), True)

    def test_courses_of_another_form(self):
        world = small_world()
        self.assertIs(shows(world, Book(), None, ((("t1", 0),), ())), True)
        self.assertIs(shows(world, Book({}, [(8, "landed", 1, "n")]), None, ((("t1", 0),), ())), True)

    def test_courses_that_are_none_of_the_world(self):
        world = small_world()
        for course in [((("t1", 3),), ()), ((("t2", 0),), ()), ((("t1", 1), ("t1", 1)), ()), ((), (("t1", 1),))]:
            self.assertIs(shows(world, Book(), None, course), False)

    def test_the_course_of_the_answer(self):
        world = growing_world()
        for tick in range(7):
            for place in [("at", "a"), ("on", "t0"), ("on", "t1"), ("lost", "a")]:
                word, course = answer(world, Book(), ("is", 2, tick, place))
                if word == "yes":
                    self.assertIs(shows(world, Book(), ("is", 2, tick, place), course), True)

    def test_a_heard_tick(self):
        world = world_of(parcels_of(1), [Trip("t", "a", "b", 1, 4, late=1)], sites=[site_of("b", lag=0)])
        self.assertIs(shows(world, Book({"h": 4}), None, ((), ())), False)
        self.assertIs(shows(world, Book({"h": 4}), None, ((("t", 1),), ())), True)

    def test_small_worlds(self):
        chance = random.Random(66)
        for world, branches in small_worlds(80, 66, least=3):
            book, wish = made_book(chance, world, branches), made_wish(chance, world, branches)
            for branch in branches:
                told = does_fit(world, branch, book) and does_meet(world, branch, wish)
                self.assertIs(shows(world, book, wish, branch.course()), told)


class ReasonsTest(unittest.TestCase):
    def test_none_where_the_wish_is_possible(self):
        self.assertIsNone(reasons(small_world(), Book(), None))
        self.assertIsNone(reasons(small_world(), Book({}, [(9, "landed", 1, "n")]), ("is", 1, 9, AT_N)))

    def test_none_though_a_heard_tick_says_no(self):
        world = world_of(parcels_of(1), [Trip("t", "a", "b", 1, 4, late=1)], sites=[site_of("b", lag=0)])
        wish = ("is", 1, 4, ("at", "b"))
        self.assertEqual(answer(world, Book({"h": 4}), wish)[0], "no")
        self.assertIsNone(reasons(world, Book({"h": 4}), wish))
        self.assertIsNone(reasons(world, Book({"h": 4}, [(1, "loaded", 1, "t")]), wish))

    def test_a_wish_that_is_impossible_without_any_record(self):
        self.assertEqual(reasons(small_world(), Book({}, [(9, "landed", 1, "n")]), ("late", 1, 20)), [])
        self.assertEqual(reasons(small_world(), Book(), ("is", 1, 0, AT_S)), [])

    def test_each_record_is_needed(self):
        # Two trips, and only room for one slip: both parcels cannot have been mislaid.
        trips = [Trip("t", "a", "b", 1, 4, late=2), Trip("u", "b", "c", 6, 8)]
        world = world_of(parcels_of(1), trips)
        book = Book({}, [(0, "taken", 1, "a"), (4, "aboard", 1, "t"), (5, "aboard", 1, "t"), (6, "loaded", 1, "u")])
        self.assertEqual(reasons(world, book, ("is", 1, 5, ("at", "b"))), [(5, "aboard", 1, "t")])
        self.assertEqual(reasons(world, book, ("is", 1, 4, ("at", "b"))), [(5, "aboard", 1, "t")])

    def test_two_records_that_only_together_refute(self):
        # The third parcel is left behind if and only if the first two have both landed before the trip leaves.
        trips = [Trip("t", "a", "b", 1, 5, late=1), Trip("u", "a", "b", 2, 5, late=1),
                 Trip("v", "b", "c", 5, 8, room=2)]
        world = world_of(parcels_of(1) + parcels_of(2, taken=2) + [Parcel(3, "3", "b", 0)], trips)
        landed = [(5, "landed", 1, "b"), (5, "landed", 2, "b")]
        book = Book({}, landed + [(0, "taken", 1, "a"), (2, "taken", 2, "a"), (0, "taken", 3, "b")])
        self.assertEqual(reasons(world, book, ("is", 3, 5, ("on", "v"))), landed)
        for one in landed:
            self.assertIsNone(reasons(world, Book({}, [one]), ("is", 3, 5, ("on", "v"))))

    def test_a_later_record_makes_an_earlier_one_needless(self):
        world = small_world()
        book = Book({}, [(8, "aboard", 1, "t1"), (9, "aboard", 1, "t1")])
        self.assertEqual(reasons(world, book, ("is", 1, 8, AT_N)), [(9, "aboard", 1, "t1")])
        book = Book({}, [(8, "aboard", 1, "t1"), (10, "landed", 1, "n")])
        self.assertEqual(reasons(world, book, ("is", 1, 8, AT_N)), [(10, "landed", 1, "n")])

    def test_records_that_contradict_each_other(self):
        world = small_world()
        book = Book({}, [(8, "landed", 1, "n"), (9, "landed", 1, "n"), (3, "taken", 1, "s")])
        self.assertEqual(reasons(world, book, None), [(8, "landed", 1, "n"), (9, "landed", 1, "n")])
        book.note((45, "out", 1, "n"))
        self.assertEqual(reasons(world, book, None), [(45, "out", 1, "n")])

    def test_struck_records_do_not_count(self):
        world = small_world()
        book = Book({}, [(8, "landed", 1, "n"), (9, "landed", 1, "n")], [(9, "landed", 1, "n"), (9, "odd", 7, "w")])
        self.assertIsNone(reasons(world, book, None))
        self.assertEqual(reasons(world, book, ("is", 1, 9, ON_T1)), [(8, "landed", 1, "n")])

    def test_too_many_on_the_way(self):
        world = growing_world()
        wish = ("is", 1, 1, ("at", "c"))
        self.assertEqual(reasons(world, Book(), wish), [])
        # The bare book of both records has small layers; the one without the first record has not.
        book = Book({}, [(1, "aboard", 1, "t0"), (99, "seen", 1, "c")])
        self.assertEqual(raised(reasons, world, book, None, most=4), too_many(4, 5))
        self.assertEqual(reasons(world, book, None, most=8), [(99, "seen", 1, "c")])
        self.assertEqual(raised(reasons, world, book, None, most=3), too_many(3, 5))
        book = Book({}, [(0, "seen", 1, "b"), (1, "aboard", 1, "t0")])
        self.assertEqual(raised(reasons, world, book, None, most=3), too_many(3, 5))
        self.assertEqual(reasons(world, book, None, most=4), [(0, "seen", 1, "b")])

    def test_small_worlds(self):
        chance = random.Random(67)
        many = 0
        for world, branches in small_worlds(200, 67, least=3):
            book, wish = made_book(chance, world, branches), made_wish(chance, world, branches)
            # What two courses have may be told by one and the other together, and by neither alone.
            for branch in chance.sample(branches, min(2, len(branches))):
                book.take(Book({}, [event for event in branch.events if chance.random() < 0.7]))
            book = Book(book.heard, [one for one in book.records if one[1] not in ("mislaid", "claimed")], book.struck)
            told = reasons(world, book, wish)
            needed = book.valid
            if fitting(world, branches, Book({}, needed), wish):
                self.assertIsNone(told)
                continue
            for record in book.valid:
                fewer = [one for one in needed if one != record]
                if not fitting(world, branches, Book({}, fewer), wish):
                    needed = fewer
            self.assertEqual(told, needed)
            self.assertEqual(answer(world, Book({}, told), wish)[0], "no")
            for record in told:
                self.assertEqual(answer(world, Book({}, [one for one in told if one != record]), wish)[0], "yes")
            many += len(told) > 1
        self.assertGreater(many, 20)


if __name__ == "__main__":
    unittest.main()
