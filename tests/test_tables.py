"""Points 3 and 15 to 20: addresses and tables."""

import itertools
import unittest

from everyparcel.tables import HERE, Table, is_address
from tests.helpers import ADDRESSES, NAMES, NOT_ADDRESSES, NOT_NAMES, all_addresses, invalid, raised, unknown

SMALL = all_addresses("01", 4)


def small_tables():
    """All tables with rows for some of the prefixes 0, 00, 01 and 010, with few lanes."""
    tables = []
    for lanes in itertools.product([None, HERE, "a", "b"], repeat=4):
        rows = [row for row in zip(["0", "00", "01", "010"], lanes) if row[1] is not None]
        tables.append(Table(rows))
    return tables


class AddressTest(unittest.TestCase):
    def test_addresses(self):
        for text in ADDRESSES:
            self.assertIs(is_address(text), True, text)

    def test_other_strings(self):
        for text in NOT_ADDRESSES + ["\u0663", "\u00b2"]:
            self.assertIs(is_address(text), False, text)


class TableTest(unittest.TestCase):
    def test_the_longest_prefix_counts(self):
        table = Table([("1", "north"), ("123", "east"), ("12", HERE)])
        self.assertEqual(table("1"), "north")
        self.assertEqual(table("13"), "north")
        self.assertEqual(table("12"), HERE)
        self.assertEqual(table("124"), HERE)
        self.assertEqual(table("123"), "east")
        self.assertEqual(table("12345678"), "east")
        self.assertIsNone(table("2"))
        self.assertIsNone(table("21"))

    def test_without_rows(self):
        table = Table([])
        self.assertIsNone(table("1"))
        self.assertEqual((table.rows, len(table)), ([], 0))
        self.assertEqual(table, Table(()))

    def test_here_is_the_empty_string(self):
        self.assertEqual(HERE, "")
        self.assertEqual(Table([("1", "")])("1"), HERE)

    def test_the_prefixes(self):
        for text in ADDRESSES:
            self.assertIsNone(raised(Table, [(text, "a")]), text)
        for text in NOT_ADDRESSES:
            self.assertEqual(raised(Table, [("1", "a"), (text, "a")]), invalid("table"), text)

    def test_the_lanes(self):
        for text in NAMES + [HERE]:
            self.assertIsNone(raised(Table, [("1", text)]), text)
        for text in NOT_NAMES:
            if text != HERE:
                self.assertEqual(raised(Table, [("1", text)]), invalid("table"), text)

    def test_no_prefix_stands_twice(self):
        self.assertEqual(raised(Table, [("1", "a"), ("1", "b")]), invalid("table"))
        self.assertEqual(raised(Table, [("1", "a"), ("2", "a"), ("1", "a")]), invalid("table"))
        self.assertIsNone(raised(Table, [("1", "a"), ("01", "a"), ("11", "a")]))

    def test_the_rows(self):
        table = Table((("2", "a"), ("12", HERE), ("1", "b"), ("100", "c")))
        self.assertEqual(table.rows, [("1", "b"), ("100", "c"), ("12", HERE), ("2", "a")])
        self.assertEqual(len(table), 4)

    def test_the_rows_are_copied(self):
        rows = [("1", "a")]
        table = Table(rows)
        rows.append(("2", "a"))
        table.rows.append(("3", "a"))
        self.assertEqual(table.rows, [("1", "a")])
        self.assertIsNone(table("3"))


class AlikeTest(unittest.TestCase):
    def test_alike(self):
        self.assertTrue(Table([("1", "a"), ("13", "a")]) == Table([("1", "a")]))
        self.assertFalse(Table([("1", "a"), ("13", "a")]) != Table([("1", "a")]))
        self.assertFalse(Table([("1", "a"), ("13", "b")]) == Table([("1", "a")]))
        self.assertFalse(Table([]) == Table([("1", HERE)]))
        self.assertTrue(Table([]) == Table([]))

    def test_other_values_are_never_equal(self):
        table = Table([])
        for other in [None, [], (), 0, "", {}]:
            self.assertIs(table == other, False)
            self.assertIs(other == table, False)

    def test_the_parting_address(self):
        one = Table([("1", "a")])
        self.assertEqual(one.parting(Table([("1", "a"), ("13", "b")])), "13")
        self.assertEqual(Table([("1", "a"), ("13", "b")]).parting(one), "13")
        self.assertIsNone(one.parting(Table([("1", "a"), ("13", "a")])))
        self.assertEqual(Table([("9", "a"), ("10", "a")]).parting(Table([])), "9")
        self.assertEqual(Table([]).parting(Table([("11", "a"), ("10", "a"), ("012", "a")])), "10")
        self.assertEqual(Table([("1", HERE)]).parting(Table([])), "1")

    def test_all_small_tables(self):
        tables = small_tables()
        told = [[table(address) for address in SMALL] for table in tables]
        for one, lanes in zip(tables, told):
            for other, others in zip(tables[::3], told[::3]):
                apart = [address for address, x, y in zip(SMALL, lanes, others) if x != y]
                self.assertEqual(one.parting(other), apart[0] if apart else None)
                self.assertIs(one == other, not apart)

    def test_the_least_table(self):
        self.assertEqual(Table([("1", "a"), ("13", "a")]).least().rows, [("1", "a")])
        table = Table([("1", "a"), ("13", "a"), ("135", "b"), ("1357", "b"), ("2", HERE), ("21", HERE), ("30", "c")])
        self.assertEqual(table.least().rows, [("1", "a"), ("135", "b"), ("2", HERE), ("30", "c")])
        self.assertEqual(len(table), 7)
        self.assertEqual(Table([]).least().rows, [])

    def test_a_row_that_repeats_a_shorter_one_behind_a_different_one_stays(self):
        rows = [("1", "a"), ("12", "b"), ("123", "a")]
        self.assertEqual(Table(rows).least().rows, rows)
        self.assertEqual(Table([("1", "a"), ("12", "a"), ("123", "a")]).least().rows, [("1", "a")])

    def test_all_least_tables(self):
        fewest = {}
        for table in small_tables():
            lanes = tuple(table(address) for address in SMALL)
            fewest[lanes] = min(fewest.get(lanes, 99), len(table))
        for table in small_tables():
            least = table.least()
            lanes = tuple(table(address) for address in SMALL)
            self.assertEqual(tuple(least(address) for address in SMALL), lanes)
            self.assertEqual(len(least), fewest[lanes])


class ChangedTest(unittest.TestCase):
    def test_a_row_is_added_or_replaced(self):
        table = Table([("1", "a")])
        self.assertEqual(table.changed("2", "b").rows, [("1", "a"), ("2", "b")])
        self.assertEqual(table.changed("1", HERE).rows, [("1", HERE)])
        self.assertEqual(table.changed("1", "a").rows, [("1", "a")])
        self.assertEqual(table.changed("11", "a").rows, [("1", "a"), ("11", "a")])
        self.assertEqual(table.rows, [("1", "a")])

    def test_a_row_is_dropped(self):
        table = Table([("1", "a"), ("12", HERE)])
        self.assertEqual(table.changed("1", None).rows, [("12", HERE)])
        self.assertEqual(table.changed("12", None).changed("1", None).rows, [])
        self.assertEqual(table.rows, [("1", "a"), ("12", HERE)])

    def test_a_row_that_is_not_there(self):
        table = Table([("12", "a")])
        for prefix in ["1", "123", "2"]:
            self.assertEqual(raised(table.changed, prefix, None), unknown(prefix))
        self.assertEqual(table.rows, [("12", "a")])

    def test_the_errors(self):
        table = Table([("1", "a")])
        for text in NOT_ADDRESSES:
            self.assertEqual(raised(table.changed, text, "a"), invalid("table"), text)
            self.assertEqual(raised(table.changed, text, None), invalid("table"), text)
        for text in NOT_NAMES:
            if text != HERE:
                self.assertEqual(raised(table.changed, "1", text), invalid("table"), text)
                self.assertEqual(raised(table.changed, "2", text), invalid("table"), text)
        for text in NAMES + [HERE]:
            self.assertEqual(table.changed("2", text)("2"), text)


class WrittenTest(unittest.TestCase):
    def test_with_keywords(self):
        table = Table.written(p12="north", p9="", p00="south")
        self.assertEqual(table.rows, [("00", "south"), ("12", "north"), ("9", HERE)])
        self.assertEqual(Table([]).written(p1="a").rows, [("1", "a")])

    def test_without_keywords(self):
        self.assertEqual(Table.written().rows, [])

    def test_wrong_keywords(self):
        for word in ["q12", "x", "12", "_p1", "P1", "", "p", "pp1", "p1a", "p123456789", "self", "rows", "lanes"]:
            self.assertEqual(raised(Table.written, **{word: "a"}), invalid("table"), word)
            self.assertEqual(raised(Table.written, p1="a", **{word: "a"}), invalid("table"), word)

    def test_wrong_lanes(self):
        self.assertEqual(raised(Table.written, p1="A"), invalid("table"))
        self.assertEqual(raised(Table.written, p1="a" * 13), invalid("table"))


if __name__ == "__main__":
    unittest.main()
