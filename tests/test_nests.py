"""Points 3 and 25 to 30: nests."""

import random
import unittest

from everyparcel.nests import Nest
from tests.helpers import invalid, raised, unknown

NOT = ("not", "")
GONE = ("gone", "")


def mixed_places():
    """Bag b1 with 3, with b0 of 4 and 9, and with 7; units of every other kind beside it."""
    return {
        "b1": ("at", "s"), "b0": ("in", "b1"), 7: ("in", "b1"), 3: ("in", "b1"), 9: ("in", "b0"), 4: ("in", "b0"),
        "b2": NOT, "b3": GONE, "a9": NOT, 2: ("on", "t1"), 11: ("out", "n"), 10: NOT, 5: NOT, 6: ("lost", "s"),
        8: ("at", "s"), "z": ("at", "s"), 1: ("in", "z"),
    }


def chain(deep):
    """A parcel with that many bags around it."""
    places = {f"b{k}": ("in", f"b{k + 1}") for k in range(deep - 1)}
    places[f"b{deep - 1}"] = ("at", "s")
    places[1] = ("in", "b0")
    return places


def with_place(unit, place):
    places = mixed_places()
    places[unit] = place
    return places


def some_nests(many):
    """Nests of several bags and parcels, always the same ones."""
    chance = random.Random(7)
    found = []
    while len(found) < many:
        places = {}
        outside = [("at", "s"), ("at", "n"), ("on", "t"), ("lost", "s")]
        bags = [f"b{k}" for k in range(chance.randint(0, 5))]
        for place, bag in enumerate(bags):
            places[bag] = chance.choice(outside + [NOT, GONE] + [("in", other) for other in bags[:place]])
        for ticket in chance.sample(range(1, 30), chance.randint(0, 9)):
            places[ticket] = chance.choice(outside + [NOT, ("out", "n")] + [("in", bag) for bag in bags])
        if raised(Nest, places) is None:
            found.append(Nest(places))
    return found


def slow_inside(nest, unit):
    """The tickets in the unit, found from below."""
    found = []
    for one in nest.all_places:
        if isinstance(one, int):
            above = one
            while above != unit and nest.place(above)[0] == "in":
                above = nest.place(above)[1]
            if above == unit:
                found.append(one)
    return sorted(found)


class PlacesTest(unittest.TestCase):
    def test_all_places(self):
        places = mixed_places()
        told = Nest(places).all_places
        self.assertEqual(told, places)
        self.assertEqual(list(told), [1, 2, 3, 4, 5, 6, 7, 8, 9, 10, 11, "a9", "b0", "b1", "b2", "b3", "z"])

    def test_the_order_is_not_that_of_strings(self):
        self.assertEqual(list(Nest({"b": NOT, 10: NOT, "a": NOT, 9: NOT}).all_places), [9, 10, "a", "b"])

    def test_the_dict_is_copied(self):
        places = mixed_places()
        nest = Nest(places)
        places[1] = NOT
        nest.all_places[1] = NOT
        nest.contents("b1").append(99)
        nest.inside("b1").append(99)
        nest.lying(NOT).append(99)
        self.assertEqual(nest, Nest(mixed_places()))
        self.assertEqual(nest.contents("b1"), [3, "b0", 7])
        self.assertEqual(nest.lying(NOT), [5, 10, "a9", "b2"])

    def test_without_units(self):
        nest = Nest({})
        self.assertEqual((len(nest), nest.all_places, nest.lying(("at", "s"))), (0, {}, []))
        self.assertNotIn(1, nest)

    def test_equal(self):
        self.assertTrue(Nest(mixed_places()) == Nest(dict(reversed(list(mixed_places().items())))))
        self.assertFalse(Nest(mixed_places()) != Nest(mixed_places()))
        self.assertFalse(Nest(mixed_places()) == Nest(with_place(8, ("at", "n"))))
        self.assertFalse(Nest({}) == Nest({1: NOT}))
        for other in [None, {}, 0, mixed_places()]:
            self.assertIs(Nest(mixed_places()) == other, False)

    def test_in_and_len(self):
        nest = Nest(mixed_places())
        self.assertEqual(len(nest), 17)
        for unit in [1, 10, "b3", "a9"]:
            self.assertIs(unit in nest, True)
        for unit in [12, "1", "s", "t1", ""]:
            self.assertIs(unit in nest, False)


class ConditionsTest(unittest.TestCase):
    def check(self, good, wrong):
        self.assertIsNone(raised(Nest, good))
        self.assertEqual(raised(Nest, wrong), invalid("nest"))

    def test_the_kinds(self):
        for kind in ["at", "on", "lost", "out"]:
            self.assertIsNone(raised(Nest, with_place(8, (kind, "s"))), kind)
        for kind in ["", "is", "At", "in "]:
            self.assertEqual(raised(Nest, with_place(8, (kind, "s"))), invalid("nest"), kind)

    def test_the_names_of_not_and_gone(self):
        self.check({1: NOT}, {1: ("not", "s")})
        self.check({"b": GONE}, {"b": ("gone", "s")})
        self.check({"b": NOT}, {"b": ("not", "b")})

    def test_the_tickets(self):
        self.check({1: NOT}, {0: NOT})
        self.check({1: ("at", "s")}, {-1: ("at", "s")})
        self.assertIsNone(raised(Nest, {10 ** 9: NOT}))

    def test_each_bag_around_a_unit_exists(self):
        self.check({1: ("in", "b"), "b": ("at", "s")}, {1: ("in", "b")})
        for place in [NOT, GONE]:
            self.assertEqual(raised(Nest, {1: ("in", "b"), "b": place}), invalid("nest"))
        self.assertEqual(raised(Nest, {1: ("in", "b"), "b": ("in", "c")}), invalid("nest"))
        self.assertEqual(raised(Nest, {1: ("in", "")}), invalid("nest"))

    def test_a_parcel_is_no_bag(self):
        self.assertEqual(raised(Nest, {1: ("in", "2"), 2: ("at", "s")}), invalid("nest"))
        self.assertEqual(raised(Nest, {1: ("in", 2), 2: ("at", "s")}), invalid("nest"))

    def test_no_bag_lies_in_itself(self):
        self.check({1: ("in", "b"), "b": ("at", "s")}, {1: ("in", "b"), "b": ("in", "b")})
        wrong = {1: ("in", "b"), "b": ("in", "c"), "c": ("in", "d"), "d": ("in", "b")}
        self.check({**wrong, "d": ("on", "t")}, wrong)

    def test_each_bag_has_something(self):
        for kind in ["at", "on", "lost"]:
            self.check({1: ("in", "b"), "b": (kind, "s")}, {1: NOT, "b": (kind, "s")})
        self.check({1: ("in", "b"), "b": ("in", "c"), "c": ("at", "s")}, {"b": ("in", "c"), "c": ("at", "s")})

    def test_no_bag_is_out_and_no_parcel_is_gone(self):
        self.check({1: ("in", "b"), "b": ("lost", "s")}, {1: ("in", "b"), "b": ("out", "s")})
        self.check({1: ("out", "s")}, {1: GONE})

    def test_twenty_bags_and_one_more(self):
        self.assertEqual(Nest(chain(20)).depth(1), 20)
        self.assertEqual(raised(Nest, chain(21)), invalid("nest"))
        self.assertEqual(raised(Nest, chain(5000)), invalid("nest"))

    def test_other_names_are_not_looked_at(self):
        for name in ["", "No Name", "abcdefghijklmnop"]:
            for kind in ["at", "on", "lost", "out"]:
                self.assertIsNone(raised(Nest, {1: (kind, name)}))
            self.assertIsNone(raised(Nest, {name: ("at", "s"), 1: ("in", name)}))


class TellingTest(unittest.TestCase):
    def test_unknown_units(self):
        nest = Nest(mixed_places())
        for call in [nest.place, nest.top, nest.position, nest.contents, nest.inside, nest.rank, nest.depth]:
            for unit in [12, "1", "s", ""]:
                self.assertEqual(raised(call, unit), unknown(unit))
        self.assertEqual(raised(nest.contents, 3), unknown(3))

    def test_places_and_positions(self):
        nest = Nest(mixed_places())
        self.assertEqual([nest.place(unit) for unit in [9, "b0", "b1", 10]],
                         [("in", "b0"), ("in", "b1"), ("at", "s"), NOT])
        self.assertEqual([nest.top(unit) for unit in [9, "b0", "b1", 10, "b3"]], ["b1", "b1", "b1", 10, "b3"])
        self.assertEqual([nest.position(unit) for unit in [9, "b0", "b1", 10, "b3", 11, 6]],
                         [("at", "s"), ("at", "s"), ("at", "s"), NOT, GONE, ("out", "n"), ("lost", "s")])
        self.assertEqual([nest.depth(unit) for unit in [9, "b0", "b1", 10, "b3"]], [2, 1, 0, 0, 0])

    def test_contents(self):
        nest = Nest(mixed_places())
        self.assertEqual(nest.contents("b1"), [3, "b0", 7])
        self.assertEqual(nest.contents("b0"), [4, 9])
        self.assertEqual([nest.contents(bag) for bag in ["b2", "b3"]], [[], []])

    def test_inside_and_ranks(self):
        nest = Nest(mixed_places())
        self.assertEqual(nest.inside("b1"), [3, 4, 7, 9])
        self.assertEqual([nest.inside(unit) for unit in ["b0", 9, 10, "b2", "b3"]], [[4, 9], [9], [10], [], []])
        self.assertEqual([nest.rank(unit) for unit in ["b1", "b0", 9, 10, "b2", "b3"]], [3, 4, 9, 10, None, None])

    def test_lying(self):
        nest = Nest(mixed_places())
        self.assertEqual(nest.lying(("at", "s")), ["z", "b1", 8])
        self.assertEqual(nest.lying(("in", "b1")), [3, "b0", 7])
        self.assertEqual(nest.lying(NOT), [5, 10, "a9", "b2"])
        self.assertEqual(nest.lying(GONE), ["b3"])
        self.assertEqual(nest.lying(("lost", "s")), [6])
        self.assertEqual(nest.lying(("out", "n")), [11])

    def test_lying_raises_nothing(self):
        nest = Nest(mixed_places())
        for place in [("at", "x"), ("in", "x"), ("in", "b2"), ("is", "s"), ("not", "s"), ("gone", "b3")]:
            self.assertEqual(nest.lying(place), [])

    def test_ranks_are_numbers(self):
        nest = Nest({10: ("in", "b"), 9: ("in", "b"), 100: ("in", "b"), "b": ("at", "s")})
        self.assertEqual(nest.contents("b"), [9, 10, 100])

    def test_some_nests(self):
        for nest in some_nests(300):
            for unit in nest.all_places:
                inside = slow_inside(nest, unit)
                self.assertEqual(nest.inside(unit), inside)
                self.assertEqual(nest.rank(unit), min(inside, default=None))
                if isinstance(unit, str):
                    direct = [one for one, place in nest.all_places.items() if place == ("in", unit)]
                    self.assertEqual(nest.contents(unit), sorted(direct, key=nest.rank))
                self.assertEqual(nest.position(unit), nest.place(nest.top(unit)))
                self.assertNotEqual(nest.position(unit)[0], "in")
            for place in set(nest.all_places.values()):
                lying = nest.lying(place)
                self.assertEqual({unit for unit in nest.all_places if nest.place(unit) == place}, set(lying))
                if place not in (NOT, GONE):
                    self.assertEqual(lying, sorted(lying, key=nest.rank))


class MovedTest(unittest.TestCase):
    def test_a_unit_is_moved(self):
        nest = Nest(mixed_places())
        self.assertEqual(nest.moved(8, ("on", "t2")), Nest(with_place(8, ("on", "t2"))))
        moved = nest.moved("b1", ("on", "t2"))
        self.assertEqual((moved.position(9), moved.place(9)), (("on", "t2"), ("in", "b0")))
        self.assertEqual(nest.moved(8, ("in", "b1")).contents("b1"), [3, "b0", 7, 8])
        self.assertEqual(nest.moved(11, NOT).place(11), NOT)
        self.assertEqual(nest, Nest(mixed_places()))

    def test_the_errors(self):
        nest = Nest(mixed_places())
        self.assertEqual(raised(nest.moved, 12, ("is", "s")), unknown(12))
        self.assertEqual(raised(nest.moved, "b9", ("at", "s")), unknown("b9"))
        for unit in [3, "b0", 9]:
            self.assertEqual(raised(nest.moved, unit, ("at", "s")), invalid("nest"))
        for unit, place in [("b1", NOT), ("b1", GONE), ("b1", ("out", "s")), ("b2", ("at", "s")), (8, GONE),
                            (8, ("in", "b2")), (8, ("in", "b9")), ("b1", ("in", "b0")), ("b1", ("in", "b1")),
                            (8, ("not", "s")), (8, ("is", "s"))]:
            self.assertEqual(raised(nest.moved, unit, place), invalid("nest"), (unit, place))
        self.assertEqual(nest, Nest(mixed_places()))

    def test_it_looks_at_nothing_else(self):
        nest = Nest(mixed_places())
        self.assertEqual(nest.moved("b3", NOT).place("b3"), NOT)
        self.assertEqual(nest.moved(6, ("out", "elsewhere")).place(6), ("out", "elsewhere"))

    def test_too_deep(self):
        places = chain(20)
        places[2] = ("at", "s")
        self.assertEqual(Nest(places).moved(2, ("in", "b0")).depth(2), 20)
        places.update({"c": ("at", "s"), 3: ("in", "c")})
        self.assertEqual(raised(Nest(places).moved, "c", ("in", "b0")), invalid("nest"))
        self.assertEqual(Nest(places).moved("c", ("in", "b1")).depth(3), 20)


class PackedTest(unittest.TestCase):
    def test_units_are_packed(self):
        nest = Nest(mixed_places())
        packed = nest.packed("b2", 8, "b1")
        self.assertEqual(packed.contents("b2"), ["b1", 8])
        self.assertEqual((packed.place("b2"), packed.place(8), packed.place(9)), (("at", "s"), ("in", "b2"), ("in", "b0")))
        self.assertEqual(packed.inside("b2"), [3, 4, 7, 8, 9])
        self.assertEqual(nest.packed("b2", 8).contents("b2"), [8])
        self.assertEqual(nest, Nest(mixed_places()))

    def test_unknown_comes_first(self):
        nest = Nest(mixed_places())
        for bag in ["b9", 12, 8, 10]:
            self.assertEqual(raised(nest.packed, bag, 12, 13), unknown(bag))
            self.assertEqual(raised(nest.packed, bag), unknown(bag))
        self.assertEqual(raised(nest.packed, "b2", 8, 13, 12), unknown(13))
        self.assertEqual(raised(nest.packed, "b3", 8, 8, "x"), unknown("x"))
        self.assertEqual(raised(nest.packed, "b1", 2, 12), unknown(12))

    def test_the_bag_is_not_closed_yet(self):
        nest = Nest(mixed_places())
        for bag in ["b1", "b0", "b3"]:
            self.assertEqual(raised(nest.packed, bag, 8), invalid("nest"))

    def test_the_units(self):
        nest = Nest(with_place(12, ("at", "n")))
        for units in [(), (8, 8), (8, "b1", 8), (8, 12), (2,), (10,), (11,), (6,), (3,), (3, 7), ("b2",), ("a9",)]:
            self.assertEqual(raised(nest.packed, "b2", *units), invalid("nest"), units)

    def test_too_deep(self):
        places = chain(20)
        places["c"] = NOT
        self.assertEqual(raised(Nest(places).packed, "c", "b19"), invalid("nest"))
        places = chain(19)
        places["c"] = NOT
        self.assertEqual(Nest(places).packed("c", "b18").depth(1), 20)

    def test_packing_and_emptying(self):
        nest = Nest(mixed_places())
        self.assertEqual(nest.packed("b2", "b1", 8, "z").emptied("b2"), Nest(with_place("b2", GONE)))


class EmptiedTest(unittest.TestCase):
    def test_a_bag_is_emptied(self):
        nest = Nest(mixed_places())
        emptied = nest.emptied("b1")
        self.assertEqual([emptied.place(unit) for unit in [3, "b0", 7]], [("at", "s")] * 3)
        self.assertEqual((emptied.place("b1"), emptied.place(9)), (GONE, ("in", "b0")))
        self.assertEqual(emptied.contents("b1"), [])
        self.assertEqual(nest, Nest(mixed_places()))

    def test_wherever_the_bag_is(self):
        for kind in ["at", "on", "lost"]:
            nest = Nest({1: ("in", "b"), "b": (kind, "s")}).emptied("b")
            self.assertEqual(nest.all_places, {1: (kind, "s"), "b": GONE})

    def test_the_errors(self):
        nest = Nest(mixed_places())
        for unit in ["b9", 12, 3, 8]:
            self.assertEqual(raised(nest.emptied, unit), unknown(unit))
        for bag in ["b2", "b3", "b0"]:
            self.assertEqual(raised(nest.emptied, bag), invalid("nest"))
        self.assertEqual(raised(nest.emptied("b1").emptied, "b1"), invalid("nest"))


if __name__ == "__main__":
    unittest.main()
