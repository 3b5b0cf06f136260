"""Points 3 and 31 to 34: manifests."""

import itertools
import unittest

from everyparcel.manifests import difference, manifest, nest_of, read_manifest, weight
from everyparcel.nests import Nest
from tests.helpers import invalid, raised, unknown
from tests.test_nests import GONE, NOT, chain, mixed_places, some_nests

AT = ("at", "s")


def bad(text):
    return ("BadManifest", {"text": text})


def deep_text(deep):
    """The manifest of a parcel with that many bags around it."""
    return "".join(f"b{k}(" for k in range(deep)) + "1" + ")" * deep


def all_values(tickets, bags, longest):
    """All manifest values with such tickets and bags whose text is at most that long, with their texts and units."""
    if longest < 1:
        return []
    found = [(ticket, str(ticket), (ticket,)) for ticket in tickets if len(str(ticket)) <= longest]
    for bag in bags:
        inner = all_values(tickets, [other for other in bags if other != bag], longest - 3)
        for many in range(1, longest):
            for parts in itertools.permutations(inner, many):
                text = f"{bag}({' '.join(part[1] for part in parts)})"
                units = (bag, *itertools.chain(*[part[2] for part in parts]))
                ranks = [min(unit for unit in part[2] if isinstance(unit, int)) for part in parts]
                if len(text) <= longest and len(set(units)) == len(units) and ranks == sorted(ranks):
                    found.append(((bag, [part[0] for part in parts]), text, units))
            if not inner or many * 2 + 2 > longest:
                break
    return found


class ManifestTest(unittest.TestCase):
    def test_the_manifest(self):
        nest = Nest(mixed_places())
        self.assertEqual(manifest(nest, "b1"), "b1(3 b0(4 9) 7)")
        self.assertEqual([manifest(nest, unit) for unit in ["b0", 9, 10, "z"]], ["b0(4 9)", "9", "10", "z(1)"])

    def test_the_errors(self):
        nest = Nest(mixed_places())
        for unit in [12, "b9", "s"]:
            self.assertEqual(raised(manifest, nest, unit), unknown(unit))
        for bag in ["b2", "b3"]:
            self.assertEqual(raised(manifest, nest, bag), invalid("manifest"))

    def test_after_a_change(self):
        nest = Nest(mixed_places())
        self.assertEqual(raised(manifest, nest.emptied("b1"), "b1"), invalid("manifest"))
        self.assertEqual(manifest(nest, "b1"), "b1(3 b0(4 9) 7)")


class ReadTest(unittest.TestCase):
    def test_the_value(self):
        self.assertEqual(read_manifest("b1(3 b0(4 9) 7)"), ("b1", [3, ("b0", [4, 9]), 7]))
        self.assertEqual(read_manifest("17"), 17)
        self.assertEqual(read_manifest("b(1)"), ("b", [1]))

    def test_tickets(self):
        self.assertEqual(read_manifest("999999999"), 999999999)
        self.assertEqual(read_manifest("b(100 123456789)"), ("b", [100, 123456789]))
        for text in ["0", "00", "01", "1000000000", "0123456789", "-1", "+1", "1.0", "1_0", "9" * 5000, "\u0663", ""]:
            self.assertEqual(raised(read_manifest, text), bad(text))
            self.assertEqual(raised(read_manifest, f"b({text})"), bad(f"b({text})"))

    def test_nothing_stands_twice(self):
        for text in ["b(3 3)", "b(3 c(3))", "b(1 c(2 b(3)))", "b(b(1))", "b(c(1) c(2))", "b(c(1 4) 3 4)"]:
            self.assertEqual(raised(read_manifest, text), bad(text))

    def test_bags_have_names(self):
        for name in ["abcdefghijkl", "mnopqrstuvwx", "yz0123456789"]:
            self.assertEqual(read_manifest(f"{name}(1)"), (name, [1]))
        for name in ["", "B", "1b", "b-", "abcdefghijklm", "b\n", "3"]:
            self.assertEqual(raised(read_manifest, f"{name}(1)"), bad(f"{name}(1)"))
            self.assertEqual(raised(read_manifest, f"c({name}(1))"), bad(f"c({name}(1))"))

    def test_bags_are_not_empty(self):
        for text in ["b()", "b(", "b", "b( )", "b(c())", "b(1 c())", "b)", "()", "b(c)", "b(1 c)"]:
            self.assertEqual(raised(read_manifest, text), bad(text))

    def test_rank_order(self):
        self.assertEqual(read_manifest("b(c(2 9) 3)"), ("b", [("c", [2, 9]), 3]))
        self.assertEqual(read_manifest("b(9 10)"), ("b", [9, 10]))
        for text in ["b(2 1)", "b(10 9)", "b(3 c(2 9))", "b(c(9 2) 10)", "b(c(4) d(3))", "b(1 2 4 3)"]:
            self.assertEqual(raised(read_manifest, text), bad(text))

    def test_spaces(self):
        for text in [" 1", "1 ", " b(1)", "b(1) ", "b (1)", "b( 1)", "b(1 )", "b(1  2)", "b(c(1)2)", "b(c(1)d(2))",
                     "b(1\n2)", "b(1\t2)", "b(1,2)", "b(1(2))", " "]:
            self.assertEqual(raised(read_manifest, text), bad(text))

    def test_text_after_the_end(self):
        for text in ["1)", "b(1))", "b(1)2", "b(1)c(2)", "b(1) c(2)", "1 2", "1(2)", "b(1)\n", "1\n", "b(1)("]:
            self.assertEqual(raised(read_manifest, text), bad(text))

    def test_missing_ends(self):
        for text in ["b(1", "b(1 ", "b(1 2", "b(c(1)", "b(c(1) 2", "b(c(1"]:
            self.assertEqual(raised(read_manifest, text), bad(text))

    def test_twenty_bags_and_one_more(self):
        self.assertEqual(manifest(nest_of([read_manifest(deep_text(20))], AT), "b0"), deep_text(20))
        self.assertEqual(raised(read_manifest, deep_text(21)), bad(deep_text(21)))
        self.assertEqual(raised(read_manifest, deep_text(50000)), bad(deep_text(50000)))
        self.assertEqual(raised(read_manifest, "b(" * 50000), bad("b(" * 50000))

    def test_all_short_texts(self):
        wanted = {text: value for value, text, _ in all_values([1, 2, 11, 12, 21, 22], ["b", "b1", "b2"], 6)}
        self.assertIn("b(1 2)", wanted)
        found = {}
        for length in range(7):
            for signs in itertools.product("12b( )", repeat=length):
                text = "".join(signs)
                if raised(read_manifest, text) is None:
                    found[text] = read_manifest(text)
        known = {text for text in found if all(word in ("1", "2", "11", "12", "21", "22", "b", "b1", "b2")
                                               for word in text.replace("(", " ").replace(")", " ").split())}
        self.assertEqual({text: found[text] for text in known}, wanted)

    def test_what_is_read_is_written_the_same(self):
        for text in ["b1(3 b0(4 9) 7)", "7", "b(c(d(1) 2) e(3 4) 5)"]:
            nest = nest_of([read_manifest(text)], AT)
            self.assertEqual(manifest(nest, nest.lying(AT)[0]), text)


class NestOfTest(unittest.TestCase):
    def test_the_nest(self):
        nest = nest_of([read_manifest("b1(3 b0(4 9) 7)"), 8], AT)
        self.assertEqual(nest, Nest({"b1": AT, 3: ("in", "b1"), "b0": ("in", "b1"), 4: ("in", "b0"), 9: ("in", "b0"),
                                     7: ("in", "b1"), 8: AT}))

    def test_without_values(self):
        for place in [AT, ("in", "b"), ("is", "x"), NOT, GONE]:
            self.assertEqual(nest_of([], place), Nest({}))

    def test_no_unit_stands_twice(self):
        for values in [[1, 1], [1, ("b", [1])], [("b", [1]), ("b", [2])], [("b", [("b", [1])])], [("b", [1, 1])]]:
            self.assertEqual(raised(nest_of, values, AT), invalid("nest"), values)
        self.assertEqual(raised(nest_of, [1, 1], NOT), invalid("nest"))

    def test_the_conditions_of_a_nest(self):
        for values, place in [([("b", [])], AT), ([("b", [1])], ("out", "s")), ([1], GONE), ([("b", [1])], NOT),
                              ([1], ("in", "b")), ([("b", [1])], ("in", "b")), ([1], ("is", "s")), ([0], AT)]:
            self.assertEqual(raised(nest_of, values, place), invalid("nest"), values)
        self.assertEqual(nest_of([1, 2], NOT), Nest({1: NOT, 2: NOT}))
        self.assertEqual(nest_of([1], ("out", "s")), Nest({1: ("out", "s")}))

    def test_twenty_bags_and_one_more(self):
        value = read_manifest(deep_text(20))
        self.assertEqual(nest_of([value], AT).depth(1), 20)
        self.assertEqual(raised(nest_of, [("c", [value])], AT), invalid("nest"))
        for k in range(3000):
            value = (f"c{k}", [value])
        self.assertEqual(raised(nest_of, [value], AT), invalid("nest"))

    def test_the_values_stay(self):
        values = [("b", [1, ("c", [2])])]
        nest = nest_of(values, AT)
        values[0][1].append(3)
        self.assertEqual(values, [("b", [1, ("c", [2]), 3])])
        self.assertEqual(manifest(nest, "b"), "b(1 c(2))")

    def test_some_nests(self):
        for nest in some_nests(200):
            for unit in nest.all_places:
                if nest.rank(unit) is None:
                    self.assertEqual(raised(manifest, nest, unit), invalid("manifest"))
                    continue
                text = manifest(nest, unit)
                alone = nest_of([read_manifest(text)], AT)
                self.assertEqual(manifest(alone, unit), text)
                self.assertEqual(alone.inside(unit), nest.inside(unit))
                for other in alone.all_places:
                    self.assertEqual(alone.place(other), AT if other == unit else nest.place(other))


class WeightTest(unittest.TestCase):
    def test_the_weight(self):
        nest = Nest(mixed_places())
        weights = {ticket: 10 ** ticket for ticket in range(1, 12)}
        self.assertEqual(weight(nest, "b1", weights), 10 ** 3 + 10 ** 4 + 10 ** 7 + 10 ** 9)
        self.assertEqual(weight(nest, 9, weights), 10 ** 9)
        self.assertEqual(weight(nest, 10, weights), 10 ** 10)

    def test_a_bag_that_does_not_exist(self):
        nest = Nest(mixed_places())
        for bag in ["b2", "b3"]:
            self.assertEqual(weight(nest, bag, {}), 0)

    def test_unknown(self):
        nest = Nest(mixed_places())
        for unit in [12, "b9"]:
            self.assertEqual(raised(weight, nest, unit, {}), unknown(unit))
        self.assertEqual(raised(weight, nest, "b1", {}), unknown(3))
        self.assertEqual(raised(weight, nest, "b1", {3: 1, 9: 1}), unknown(4))
        self.assertEqual(raised(weight, nest, "b1", {3: 1, 4: 1, 7: 1}), unknown(9))
        self.assertEqual(weight(nest, "b1", {3: 1, 4: 1, 7: 1, 9: 1}), 4)

    def test_the_depth(self):
        self.assertEqual(weight(Nest(chain(20)), "b19", {1: 5}), 5)


class DifferenceTest(unittest.TestCase):
    def test_the_tickets(self):
        one, other = read_manifest("b1(3 b0(4 9) 7)"), read_manifest("c(4 d(9 11) 10)")
        self.assertEqual(difference(one, other), [3, 7, 10, 11])
        self.assertEqual(difference(other, one), [3, 7, 10, 11])
        self.assertEqual(difference(one, one), [])
        self.assertEqual(difference(1, 2), [1, 2])
        self.assertEqual(difference(2, ("b", [2])), [])
        self.assertEqual(difference(10, ("b", [2, 9])), [2, 9, 10])


if __name__ == "__main__":
    unittest.main()
