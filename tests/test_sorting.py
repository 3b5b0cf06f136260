"""Points 3 and 21 to 24: plans of sorting."""

import itertools
import unittest

from everyparcel.sorting import Sorting, check_ranks, parting_sites
from everyparcel.tables import HERE, Table
from tests.helpers import (
    NAMES, NOT_ADDRESSES, NOT_NAMES, all_addresses, invalid, raised, small_sorting, unknown,
)


def rows_of(sorting):
    return {site: sorting.table(site).rows for site in sorting.names()}


def mixed_sorting():
    """Paths that end in every way: 1 is delivered at c, 2 runs in a loop, 3 leaves for a site without a table."""
    return Sorting({
        "c": Table([("1", HERE), ("2", "b"), ("11", "a")]),
        "a": Table([("1", "b"), ("2", "b"), ("3", "far"), ("4", HERE), ("11", HERE)]),
        "b": Table([("1", "c"), ("2", "c")]),
        "empty": Table([]),
    })


def small_sortings():
    """Sortings of the sites a and b with rows for 1 and 10."""
    found = []
    lanes = [None, HERE, "a", "b"]
    for ways in itertools.product(lanes, repeat=4):
        if "a" in ways[:2] or "b" in ways[2:]:
            continue
        rows = list(zip(["1", "10", "1", "10"], ways))
        tables = {"a": rows[:2], "b": rows[2:]}
        found.append(Sorting({
            site: Table([row for row in part if row[1] is not None]) for site, part in tables.items()
        }))
    return found


class SortingTest(unittest.TestCase):
    def test_the_names_and_tables(self):
        sorting = mixed_sorting()
        self.assertEqual(sorting.names(), ["a", "b", "c", "empty"])
        self.assertEqual(sorting.table("b").rows, [("1", "c"), ("2", "c")])
        self.assertEqual(sorting.table("empty").rows, [])
        self.assertEqual(raised(sorting.table, "far"), unknown("far"))
        self.assertEqual(Sorting({}).names(), [])

    def test_the_keys(self):
        for text in NAMES:
            self.assertIsNone(raised(Sorting, {text: Table([])}), text)
        for text in NOT_NAMES:
            self.assertEqual(raised(Sorting, {text: Table([])}), invalid("sorting"), text)

    def test_no_lane_is_its_own_site(self):
        self.assertEqual(raised(Sorting, {"a": Table([("1", "b"), ("2", "a")])}), invalid("sorting"))
        self.assertIsNone(raised(Sorting, {"a": Table([("1", "b")]), "b": Table([("1", "a")])}))
        self.assertIsNone(raised(Sorting, {"a": Table([("1", HERE)])}))

    def test_the_dict_is_copied(self):
        tables = {"a": Table([("1", HERE)])}
        sorting = Sorting(tables)
        tables["b"] = Table([("2", HERE)])
        sorting.names().append("b")
        sorting.marks().append("2")
        sorting.tests().append("2")
        sorting.path("a", "1")[0].append("b")
        sorting.ranks("1")["b"] = 0
        self.assertEqual(sorting.names(), ["a"])
        self.assertEqual(sorting.marks(), ["1"])
        self.assertEqual(sorting.tests(), ["1", "0"])
        self.assertEqual(sorting.path("a", "1"), (["a"], "here"))
        self.assertEqual(sorting.ranks("1"), {"a": 0})

    def test_the_lane(self):
        sorting = mixed_sorting()
        self.assertEqual(sorting.lane("a", "12"), "b")
        self.assertEqual(sorting.lane("a", "110"), HERE)
        self.assertIsNone(sorting.lane("a", "5"))
        self.assertIsNone(sorting.lane("far", "1"))
        self.assertIsNone(sorting.lane("empty", "1"))


class ChangedTest(unittest.TestCase):
    def test_a_row_is_added_replaced_or_dropped(self):
        sorting = small_sorting()
        self.assertEqual(rows_of(sorting.changed("s", "3", "n"))["s"], [("2", "n"), ("3", "n")])
        self.assertEqual(rows_of(sorting.changed("s", "2", HERE)), {"n": [("2", HERE)], "s": [("2", HERE)]})
        self.assertEqual(rows_of(sorting.changed("n", "2", None)), {"n": [], "s": [("2", "n")]})
        self.assertEqual(rows_of(sorting), {"n": [("2", HERE)], "s": [("2", "n")]})

    def test_a_site_without_a_table(self):
        sorting = small_sorting()
        self.assertEqual(rows_of(sorting.changed("m", "2", "n"))["m"], [("2", "n")])
        self.assertEqual(sorting.changed("m", "2", "n").names(), ["m", "n", "s"])
        self.assertEqual(raised(sorting.changed, "m", "2", None), unknown("2"))
        self.assertEqual(sorting.names(), ["n", "s"])

    def test_the_errors_in_their_order(self):
        sorting = small_sorting()
        for text in NOT_ADDRESSES:
            self.assertEqual(raised(sorting.changed, "s", text, "s"), invalid("table"), text)
            self.assertEqual(raised(sorting.changed, "S", text, None), invalid("table"), text)
        self.assertEqual(raised(sorting.changed, "S", "1", "S"), invalid("table"))
        self.assertEqual(raised(sorting.changed, "S", "1", None), unknown("1"))
        self.assertEqual(raised(sorting.changed, "s", "1", None), unknown("1"))
        self.assertEqual(raised(sorting.changed, "s", "21", None), unknown("21"))
        self.assertEqual(raised(sorting.changed, "s", "1", "s"), invalid("sorting"))
        self.assertEqual(raised(sorting.changed, "m", "1", "m"), invalid("sorting"))
        self.assertEqual(raised(sorting.changed, "S", "1", "s"), invalid("sorting"))
        self.assertEqual(raised(sorting.changed, "", "1", HERE), invalid("sorting"))
        self.assertEqual(rows_of(sorting), {"n": [("2", HERE)], "s": [("2", "n")]})


class PathTest(unittest.TestCase):
    def test_here(self):
        sorting = mixed_sorting()
        self.assertEqual(small_sorting().path("s", "21"), (["s", "n"], "here"))
        self.assertEqual(sorting.path("a", "12"), (["a", "b", "c"], "here"))
        self.assertEqual(sorting.path("c", "12"), (["c"], "here"))
        self.assertEqual(sorting.path("b", "11"), (["b", "c", "a"], "here"))

    def test_none(self):
        sorting = mixed_sorting()
        self.assertEqual(sorting.path("a", "3"), (["a", "far"], "none"))
        self.assertEqual(sorting.path("a", "5"), (["a"], "none"))
        self.assertEqual(sorting.path("far", "1"), (["far"], "none"))
        self.assertEqual(sorting.path("empty", "1"), (["empty"], "none"))

    def test_loop(self):
        sorting = mixed_sorting()
        self.assertEqual(sorting.path("b", "2"), (["b", "c", "b"], "loop"))
        self.assertEqual(sorting.path("a", "2"), (["a", "b", "c", "b"], "loop"))

    def test_via(self):
        sorting = mixed_sorting()
        for goal, told in [("a", False), ("b", True), ("c", True), ("far", False)]:
            self.assertIs(sorting.via("a", goal, "12"), told, goal)
        self.assertIs(sorting.via("a", "far", "3"), True)
        self.assertIs(sorting.via("c", "c", "12"), False)
        self.assertIs(sorting.via("b", "b", "2"), True)
        self.assertIs(sorting.via("a", "a", "2"), False)
        self.assertIs(sorting.via("far", "far", "1"), False)


class MarksTest(unittest.TestCase):
    def test_the_marks(self):
        sorting = mixed_sorting()
        self.assertEqual(sorting.marks(), ["1", "11", "2", "3", "4"])
        self.assertEqual(Sorting({}).marks(), [])
        self.assertEqual(Sorting({"a": Table([])}).marks(), [])

    def test_the_mark(self):
        sorting = mixed_sorting()
        told = [sorting.mark(address) for address in ["1", "12", "11", "1122", "4", "5", "51"]]
        self.assertEqual(told, ["1", "1", "11", "11", "4", None, None])

    def test_the_least_address_without_a_mark(self):
        self.assertEqual(mixed_sorting().unmarked(), "0")
        self.assertEqual(Sorting({}).unmarked(), "0")
        self.assertEqual(Sorting({"a": Table.written(p0="", p1="", p22="")}).unmarked(), "2")
        most = Table([(digit, HERE) for digit in "012345678"])
        self.assertEqual(Sorting({"a": most, "b": Table([("99", HERE)])}).unmarked(), "9")

    def test_all_ten_digits(self):
        sorting = Sorting({"a": Table([(digit, HERE) for digit in "01234"]),
                           "b": Table([(digit, HERE) for digit in "56789"])})
        self.assertIsNone(sorting.unmarked())
        self.assertEqual(sorting.tests(), list("0123456789"))

    def test_addresses_with_the_same_mark_have_the_same_paths(self):
        sorting = mixed_sorting()
        paths = {}
        for address in all_addresses("0123456789", 3):
            for site in ["a", "b", "c", "empty", "far"]:
                path = paths.setdefault((sorting.mark(address), site), sorting.path(site, address))
                self.assertEqual(sorting.path(site, address), path)

    def test_the_tests(self):
        self.assertEqual(mixed_sorting().tests(), ["1", "11", "2", "3", "4", "0"])
        self.assertEqual(Sorting({}).tests(), ["0"])


class FaultsTest(unittest.TestCase):
    def test_the_faults(self):
        self.assertEqual(small_sorting().faults(["s", "n"]), [("s", "0", "none"), ("n", "0", "none")])
        told = mixed_sorting().faults(("b", "a"))
        self.assertEqual(told, [
            ("b", "2", "loop"), ("b", "3", "none"), ("b", "4", "none"), ("b", "0", "none"),
            ("a", "2", "loop"), ("a", "3", "none"), ("a", "0", "none"),
        ])

    def test_no_faults(self):
        all_here = Table([(digit, HERE) for digit in "0123456789"])
        all_there = Table([(digit, "a") for digit in "0123456789"])
        self.assertEqual(Sorting({"a": all_here, "b": all_there}).faults(["a", "b"]), [])
        self.assertEqual(mixed_sorting().faults([]), [])

    def test_a_site_without_a_table_or_twice(self):
        told = Sorting({"a": Table([("1", HERE)])}).faults(["z", "a", "z"])
        self.assertEqual(told, [("z", "1", "none"), ("z", "0", "none"), ("a", "0", "none"),
                                ("z", "1", "none"), ("z", "0", "none")])


class RanksTest(unittest.TestCase):
    def test_the_ranks(self):
        sorting = mixed_sorting()
        self.assertEqual(sorting.ranks("12"), {"a": 2, "b": 1, "c": 0, "empty": None, "far": None})
        self.assertEqual(sorting.ranks("2"), {"a": None, "b": None, "c": None, "empty": None, "far": None})
        self.assertEqual(sorting.ranks("4"), {"a": 0, "b": None, "c": None, "empty": None, "far": None})
        self.assertEqual(list(sorting.ranks("12")), ["a", "b", "c", "empty", "far"])
        self.assertEqual(Sorting({}).ranks("1"), {})

    def test_the_ranks_pass_the_check(self):
        for sorting in small_sortings() + [mixed_sorting()]:
            for address in sorting.tests() + ["11", "100"]:
                ranks = sorting.ranks(address)
                self.assertIs(check_ranks(sorting, address, ranks), True)
                for site, rank in ranks.items():
                    self.assertIs(rank is None, sorting.path(site, address)[1] != "here")

    def test_another_order_of_the_keys(self):
        sorting = mixed_sorting()
        ranks = sorting.ranks("12")
        self.assertIs(check_ranks(sorting, "12", {site: ranks[site] for site in reversed(list(ranks))}), True)

    def test_a_wrong_value(self):
        sorting = mixed_sorting()
        for address in ["12", "2", "4", "0"]:
            ranks = sorting.ranks(address)
            for site in ranks:
                for rank in [None, -1, 0, 1, 2, 3]:
                    if rank != ranks[site]:
                        self.assertIs(check_ranks(sorting, address, {**ranks, site: rank}), False)

    def test_just_one_dict_passes(self):
        sorting = mixed_sorting()
        sites = sorting.stations()
        for address in ["12", "2", "11"]:
            passing = []
            for values in itertools.product([None, 0, 1, 2, 3], repeat=len(sites)):
                ranks = dict(zip(sites, values))
                if check_ranks(sorting, address, ranks):
                    passing.append(ranks)
            self.assertEqual(passing, [sorting.ranks(address)])

    def test_a_missing_key_and_a_key_too_many(self):
        sorting = mixed_sorting()
        ranks = sorting.ranks("12")
        for site in ranks:
            self.assertIs(check_ranks(sorting, "12", {key: ranks[key] for key in ranks if key != site}), False)
        for value in [None, 0]:
            self.assertIs(check_ranks(sorting, "12", {**ranks, "more": value}), False)
        self.assertIs(check_ranks(sorting, "12", {}), False)
        self.assertIs(check_ranks(Sorting({}), "1", {}), True)

    def test_the_dict_stays(self):
        sorting = mixed_sorting()
        ranks = sorting.ranks("12")
        check_ranks(sorting, "12", ranks)
        self.assertEqual(ranks, sorting.ranks("12"))


class PartingTest(unittest.TestCase):
    def test_the_same_paths(self):
        one = small_sorting()
        self.assertIsNone(parting_sites(one, one, ["s", "n", "m"]))
        self.assertIsNone(parting_sites(one, one.changed("s", "21", "n"), ["s", "n"]))
        self.assertIsNone(parting_sites(one, one.changed("m", "1", "n"), ["s", "n"]))
        self.assertIsNone(parting_sites(one, Sorting({}), []))

    def test_both_ways_round(self):
        one = small_sorting()
        other = one.changed("n", "21", "m").changed("n", "20", "k").changed("n", "10", "k")
        for first, second in [(one, other), (other, one)]:
            self.assertEqual(parting_sites(first, second, ["s", "n"]), ("s", "20"))
            self.assertEqual(parting_sites(first, second, ("n", "s")), ("n", "10"))
            self.assertEqual(parting_sites(first, second, ["m", "n"]), ("n", "10"))

    def test_a_shorter_address_comes_first(self):
        one = Sorting({"a": Table([("9", HERE), ("10", HERE)])})
        self.assertEqual(parting_sites(one, Sorting({}), ["a"]), ("a", "9"))
        self.assertEqual(parting_sites(Sorting({}), one, ["a"]), ("a", "9"))

    def test_the_word_counts_too(self):
        one = Sorting({"a": Table([("1", HERE)])})
        self.assertEqual(parting_sites(one, Sorting({"a": Table([])}), ["a"]), ("a", "1"))

    def test_all_small_sortings(self):
        sortings = small_sortings()
        addresses = all_addresses("012", 3)
        for one in sortings[::2]:
            for other in sortings[::3]:
                apart = [
                    (site, address) for site in ["b", "a"] for address in addresses
                    if one.path(site, address) != other.path(site, address)
                ]
                self.assertEqual(parting_sites(one, other, ["b", "a"]), apart[0] if apart else None)


if __name__ == "__main__":
    unittest.main()
