"""Point 87: how several houses settle."""

import random
import unittest

from everyparcel.charges import Prices
from everyparcel.ledgers import balances, ledger
from everyparcel.runs import courses, run
from everyparcel.settling import house_postings, payments, settled
from tests.brute import small_worlds
from tests.helpers import invalid, raised, unknown

H, K, ANN, LAND = ("house", "h"), ("house", "k"), ("sender", "ann"), ("land", "x")


class HousePostingsTest(unittest.TestCase):
    def test_only_between_houses_and_in_their_order(self):
        postings = [(9, H, K, 2, "toll", 3), (0, ANN, H, 400, "postage", 1), (5, K, H, 6, "toll", 2),
                    (5, ANN, LAND, 7, "duty", 1), (7, H, ANN, 1, "cover", 1), (1, H, K, 3, "toll", 1),
                    (1, ("sender", "h"), ("house", "k"), 3, "x", 1)]
        told = [postings[0], postings[2], postings[5]]
        self.assertEqual(house_postings(postings), told)
        self.assertEqual(house_postings(tuple(postings)), told)
        self.assertEqual(house_postings([]), [])
        self.assertEqual(len(postings), 7)


class PaymentsTest(unittest.TestCase):
    def test_the_example(self):
        self.assertEqual(payments({"a": -5, "b": 3, "c": 2}), [("a", "b", 3), ("a", "c", 2)])

    def test_no_houses_and_houses_with_the_balance_0(self):
        self.assertEqual(payments({}), [])
        self.assertEqual(payments({"a": 0}), [])
        self.assertEqual(payments({"b": 0, "a": 0, "c": 0}), [])
        self.assertEqual(payments({"b": 0, "a": 4, "c": -4}), [("c", "a", 4)])

    def test_one_payer_for_many_payees_and_the_other_way(self):
        self.assertEqual(payments({"d": -6, "c": 1, "b": 2, "a": 3}), [("d", "a", 3), ("d", "b", 2), ("d", "c", 1)])
        self.assertEqual(payments({"a": 6, "b": -1, "d": -3, "c": -2}), [("b", "a", 1), ("c", "a", 2), ("d", "a", 3)])

    def test_ascending_whatever_the_order_of_the_dict(self):
        told = [("b", "a", 4), ("b", "c", 1), ("d", "c", 2)]
        self.assertEqual(payments({"a": 4, "b": -5, "c": 3, "d": -2}), told)
        self.assertEqual(payments({"d": -2, "c": 3, "b": -5, "a": 4}), told)

    def test_equal_amounts(self):
        self.assertEqual(payments({"a": -3, "b": 3, "c": -4, "d": 4}), [("a", "b", 3), ("c", "d", 4)])

    def test_a_sum_that_is_not_0(self):
        for wrong in [{"a": 1}, {"a": -1}, {"a": 5, "b": -4}, {"a": 0, "b": -1, "c": 2}]:
            self.assertEqual(raised(payments, wrong), invalid("balances"))

    def test_what_is_passed_stays(self):
        given = {"b": -5, "a": 3, "c": 2}
        payments(given).clear()
        self.assertEqual(list(given.items()), [("b", -5), ("a", 3), ("c", 2)])

    def test_many(self):
        chance = random.Random(87)
        for _ in range(400):
            names = chance.sample("abcdefg", chance.randint(1, 7))
            given = {name: chance.choice([0, 0, 1, 2, 5, -1, -3, -7]) for name in names}
            given[names[0]] -= sum(given.values())
            told = payments(given)
            others = [name for name in given if given[name]]
            self.assertTrue(len(told) < len(others) or told == others == [])
            self.assertEqual(sum(cents for _, _, cents in told), sum(cents for cents in given.values() if cents > 0))
            self.assertTrue(all(cents > 0 for _, _, cents in told))
            self.assertEqual(told, sorted(told))
            self.assertTrue(all(given[payer] < 0 < given[payee] for payer, payee, _ in told))
            after = settled(given, told)
            self.assertEqual(list(after.items()), [(name, 0) for name in given])


class SettledTest(unittest.TestCase):
    def test_a_payer_grows_and_a_payee_falls(self):
        self.assertEqual(settled({"a": -5, "b": 3}, [("a", "b", 3)]), {"a": -2, "b": 0})
        self.assertEqual(settled({"a": 1, "b": 1}, [("a", "b", 3), ("b", "a", 1)]), {"a": 3, "b": -1})
        self.assertEqual(settled({"a": 7}, []), {"a": 7})
        self.assertEqual(settled({}, ()), {})
        self.assertEqual(settled({"a": 7}, [("a", "a", 2)]), {"a": 7})

    def test_the_keys_stay(self):
        told = settled({"c": 0, "b": 3, "a": -3}, [("a", "b", 3)])
        self.assertEqual(list(told.items()), [("c", 0), ("b", 0), ("a", 0)])

    def test_unknown_payers_and_payees(self):
        given = {"a": -5, "b": 5}
        for some, name in [([("x", "y", 1)], "x"), ([("a", "y", 1)], "y"),
                           ([("a", "b", 1), ("b", "w", 1), ("v", "a", 1)], "w"), ([("a", "b", 1), ("v", "w", 1)], "v")]:
            self.assertEqual(raised(settled, given, some), unknown(name))
        self.assertEqual(given, {"a": -5, "b": 5})

    def test_what_is_passed_stays(self):
        given, some = {"a": -5, "b": 5}, [("a", "b", 5)]
        settled(given, some)["a"] = 9
        self.assertEqual((given, some), ({"a": -5, "b": 5}, [("a", "b", 5)]))


class SmallWorldsTest(unittest.TestCase):
    def test_the_houses_of_small_worlds(self):
        several = 0
        for world, _ in small_worlds(80, 87, rich=True):
            for course in courses(world):
                postings = house_postings(ledger(world, run(world, course), Prices.usual()))
                found = balances(postings)
                self.assertTrue(all(posting[4] == "toll" for posting in postings))
                named = {name: cents for (_, name), cents in found.items()}
                told = payments(named)
                self.assertEqual(settled(named, told), {name: 0 for name in named})
                several += len(told) > 0
        self.assertGreater(several, 30)


if __name__ == "__main__":
    unittest.main()
