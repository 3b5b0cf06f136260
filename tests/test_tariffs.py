"""Point 38: tariffs."""

import itertools
import random
import unittest

from everyparcel.goods import Good
from everyparcel.tariffs import ANY, BARRED, Tariff
from tests.helpers import ADDRESSES, NAMES, NOT_ADDRESSES, NOT_NAMES, all_addresses, invalid, raised


def tariff_of(*rows):
    return Tariff("x", rows)


def rows_with(*rows):
    return raised(Tariff, "x", list(rows))


def some_tariffs(many):
    chance = random.Random(38)
    for _ in range(many):
        rows = {}
        for _ in range(chance.randint(0, 4)):
            key = (chance.choice(all_addresses("12", 2)), chance.choice([ANY, "a", "b"]))
            rows[key] = chance.choice([0, 1, BARRED])
        yield tariff_of(*[(prefix, land, rate) for (prefix, land), rate in rows.items()])


class TariffTest(unittest.TestCase):
    def test_the_attributes(self):
        tariff = Tariff("li", [], free=3, share=40)
        self.assertEqual((tariff.land, tariff.free, tariff.share, tariff.rows), ("li", 3, 40, ()))
        tariff = Tariff("li", [])
        self.assertEqual((tariff.free, tariff.share), (0, 50))

    def test_the_rows_are_sorted(self):
        rows = [("2", ANY, 1), ("1", "no", BARRED), ("12", ANY, 3), ("1", ANY, 4), ("10", "no", 0)]
        told = (("1", ANY, 4), ("1", "no", BARRED), ("10", "no", 0), ("12", ANY, 3), ("2", ANY, 1))
        self.assertEqual(Tariff("x", rows).rows, told)
        self.assertEqual(Tariff("x", tuple(rows)).rows, told)

    def test_the_rows_are_copied(self):
        rows = [("1", ANY, 4)]
        tariff = Tariff("x", rows)
        rows.append(("2", ANY, 4))
        self.assertEqual(tariff.rows, (("1", ANY, 4),))

    def test_the_prefix(self):
        for text in ADDRESSES:
            self.assertIsNone(rows_with((text, ANY, 1)), text)
        for text in NOT_ADDRESSES:
            self.assertEqual(rows_with((text, ANY, 1)), invalid("tariff"), text)

    def test_the_origin_of_a_row(self):
        for text in NAMES + [ANY]:
            self.assertIsNone(rows_with(("1", text, 1)), text)
        for text in NOT_NAMES:
            if text != ANY:
                self.assertEqual(rows_with(("1", text, 1)), invalid("tariff"), text)

    def test_the_rate_of_a_row(self):
        for rate in [0, 1, 1000, 5000, BARRED]:
            self.assertIsNone(rows_with(("1", ANY, rate)))
        self.assertEqual(rows_with(("1", ANY, -1)), invalid("tariff"))
        self.assertEqual(rows_with(("1", ANY, 1), ("2", ANY, -1)), invalid("tariff"))

    def test_no_prefix_and_origin_twice(self):
        self.assertEqual(rows_with(("1", ANY, 1), ("1", ANY, 1)), invalid("tariff"))
        self.assertEqual(rows_with(("1", "no", 1), ("2", ANY, 1), ("1", "no", BARRED)), invalid("tariff"))
        self.assertIsNone(rows_with(("1", "no", 1), ("1", ANY, 1), ("1", "li", 1), ("11", "no", 1)))

    def test_the_land_and_the_numbers(self):
        for text in NAMES:
            self.assertIsNone(raised(Tariff, text, []), text)
        for text in NOT_NAMES:
            self.assertEqual(raised(Tariff, text, []), invalid("tariff"), text)
        for free, share, wrong in [(0, 0, False), (0, 100, False), (-1, 50, True), (0, -1, True), (0, 101, True)]:
            told = raised(Tariff, "x", [], free=free, share=share)
            self.assertEqual(told, invalid("tariff") if wrong else None)


class RateTest(unittest.TestCase):
    def test_the_longest_prefix_counts(self):
        tariff = tariff_of(("1", ANY, 10), ("123", ANY, 30), ("12345678", ANY, 80))
        told = [("1", 10), ("12", 10), ("123", 30), ("1239", 30), ("1234567", 30), ("12345678", 80), ("19", 10)]
        for heading, rate in told:
            self.assertEqual(tariff.rate(heading, "no"), rate)
            self.assertEqual(tariff.rate(heading, ANY), rate)

    def test_equal_prefixes_for_a_land_and_for_any(self):
        tariff = tariff_of(("1", ANY, 10), ("1", "no", 20))
        self.assertEqual([tariff.rate("15", land) for land in ["no", "li", ANY]], [20, 10, 10])

    def test_a_shorter_prefix_with_the_own_origin(self):
        tariff = tariff_of(("1", "no", 20), ("12", ANY, 10))
        self.assertEqual([tariff.rate("12", land) for land in ["no", "li", ANY]], [10, 10, 10])
        self.assertEqual([tariff.rate("13", land) for land in ["no", "li", ANY]], [20, 0, 0])

    def test_barred_rows(self):
        tariff = tariff_of(("1", ANY, BARRED), ("12", "no", 0), ("13", "no", BARRED), ("13", ANY, 5))
        self.assertEqual([tariff.rate("11", land) for land in ["no", "li", ANY]], [BARRED, BARRED, BARRED])
        self.assertEqual([tariff.rate("12", land) for land in ["no", "li", ANY]], [0, BARRED, BARRED])
        self.assertEqual([tariff.rate("13", land) for land in ["no", "li", ANY]], [BARRED, 5, 5])

    def test_no_row_fits(self):
        self.assertEqual(tariff_of().rate("1", "no"), 0)
        self.assertEqual(tariff_of(("12", ANY, 5), ("1", "li", 7)).rate("1", "no"), 0)
        self.assertEqual(tariff_of(("12", ANY, 5), ("1", "li", 7)).rate("2", "li"), 0)

    def test_the_land_of_the_tariff_does_not_matter(self):
        self.assertEqual(Tariff("no", [("1", "no", 7)]).rate("1", "no"), 7)
        self.assertEqual(Tariff("no", [("1", ANY, 7)]).rate("1", "no"), 7)


class AdmitsTest(unittest.TestCase):
    def test_no_good_may_be_barred(self):
        tariff = tariff_of(("1", ANY, BARRED), ("12", "no", 0), ("3", "se", BARRED))
        right = [Good("12", 5, "no"), Good("2", 5, "li"), Good("3", 5, "no")]
        self.assertTrue(tariff.admits([]))
        self.assertTrue(tariff.admits(right))
        self.assertTrue(tariff.admits(tuple(right)))
        for wrong in [Good("12", 5, "li"), Good("1", 0, "no"), Good("39", 5, "se")]:
            self.assertFalse(tariff.admits([wrong]))
            self.assertFalse(tariff.admits(right + [wrong]))
            self.assertFalse(tariff.admits([wrong] + right))

    def test_parts_count_for_the_origin_only(self):
        tariff = tariff_of(("1", ANY, BARRED), ("2", "no", BARRED))
        self.assertTrue(tariff.admits([Good("2", 9, "li", [Good("1", 9, "no")])]))
        self.assertTrue(tariff.admits([Good("2", 10, "li", [Good("2", 5, "no")])]))
        self.assertFalse(tariff.admits([Good("2", 10, "li", [Good("2", 6, "no")])]))

    def test_the_share_of_the_tariff(self):
        goods = [Good("2", 10, "li", [Good("2", 5, "no")])]
        for share, told in [(0, False), (49, False), (50, True), (100, True)]:
            self.assertEqual(Tariff("x", [("2", "no", BARRED)], share=share).admits(goods), told)


class PartingTest(unittest.TestCase):
    def check(self, one, other, told):
        self.assertEqual(one.parting(other), told)
        self.assertEqual(other.parting(one), told)

    def test_the_same_rates(self):
        self.check(tariff_of(), tariff_of(), None)
        self.check(tariff_of(("1", ANY, 5)), tariff_of(("1", ANY, 5), ("12", ANY, 5), ("13", "no", 5)), None)
        self.check(tariff_of(), tariff_of(("1", ANY, 0), ("2", "no", 0)), None)

    def test_another_land_free_or_share(self):
        self.assertIsNone(Tariff("x", [], free=4, share=3).parting(Tariff("y", [])))

    def test_a_land_that_only_one_names(self):
        self.check(tariff_of(("1", ANY, 5)), tariff_of(("1", ANY, 5), ("1", "no", 6)), ("1", "no"))
        self.check(tariff_of(("1", ANY, 5)), tariff_of(("1", ANY, 5), ("12", "no", 6)), ("12", "no"))

    def test_the_length_comes_first(self):
        self.check(tariff_of(("11", "no", 1), ("2", "no", 1)), tariff_of(), ("2", "no"))
        self.check(tariff_of(("12", "no", 1), ("21", "no", 1)), tariff_of(), ("12", "no"))

    def test_the_origins_are_compared_as_strings(self):
        self.check(tariff_of(("1", "no", 1), ("1", "li", 1)), tariff_of(), ("1", "li"))
        self.check(tariff_of(("1", "bb", 1), ("1", "c", 1)), tariff_of(), ("1", "bb"))

    def test_the_land_that_stands_for_all_others(self):
        self.check(tariff_of(("1", ANY, 1)), tariff_of(), ("1", "a"))
        self.check(tariff_of(("1", ANY, 1), ("2", "a", 1)), tariff_of(), ("1", "a"))
        self.check(tariff_of(("1", ANY, 1), ("1", "a", 0)), tariff_of(), ("1", "b"))
        # Where all lands differ, the least of the lands in the rows may come before the one for all others.
        self.check(tariff_of(("1", ANY, 1)), tariff_of(("2", "a", 1), ("2", "c", 1)), ("1", "a"))
        self.check(tariff_of(("1", ANY, 1), ("1", "a", 0), ("1", "a0", 0), ("1", "c", 0)), tariff_of(), ("1", "b"))

    def test_all_lands_of_one_letter_are_named(self):
        letters = "abcdefghijklmnopqrstuvwxyz"
        rows = [("1", letter, 7) for letter in letters]
        self.check(tariff_of(("1", ANY, 9), *rows), tariff_of(*rows), ("1", "a0"))
        rows += [("1", f"a{sign}", 7) for sign in "0123456789" + letters[:3]]
        self.check(tariff_of(("1", ANY, 9), *rows), tariff_of(*rows), ("1", "ad"))
        self.check(tariff_of(("1", ANY, 9), *rows), tariff_of(("1", ANY, 9), *rows), None)

    def test_barred_is_not_the_rate_0(self):
        self.check(tariff_of(("1", "no", BARRED)), tariff_of(), ("1", "no"))
        self.check(tariff_of(("1", "no", BARRED)), tariff_of(("1", "no", 0)), ("1", "no"))

    def test_against_all_headings_and_some_lands(self):
        keys = list(itertools.product(all_addresses("123", 3), ["a", "b", "c"]))
        tariffs = list(some_tariffs(70))
        partings = set()
        for one, other in itertools.product(tariffs, tariffs):
            told = next((key for key in keys if one.rate(*key) != other.rate(*key)), None)
            parting = one.parting(other)
            partings.add(parting)
            self.assertEqual(parting, told)
        self.assertGreater(len(partings), 10)


if __name__ == "__main__":
    unittest.main()
