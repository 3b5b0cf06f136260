"""Points 40 and 41: duties, shares, and what passes a border."""

import itertools
import random
import unittest
from fractions import Fraction

from everyparcel.duties import clears, duties, share_out
from everyparcel.goods import Good, origin
from everyparcel.parcels import Parcel
from everyparcel.tariffs import ANY, BARRED, Tariff
from tests.helpers import invalid, raised


def parcel(ticket, *goods, taken=0, **other):
    return Parcel(ticket, "1", "s", taken, goods=goods, **other)


def duties_of(tariff, *worths, heading="1"):
    """The duties of parcels of one consignment with one good each."""
    parcels = [parcel(ticket, Good(heading, worth, "no")) for ticket, worth in enumerate(worths, 1)]
    return list(duties(tariff, parcels).values())


def plain_shares(total, weights):
    shares = [total * weight // sum(weights) for weight in weights]
    rests = [Fraction(total * weight, sum(weights)) - share for weight, share in zip(weights, shares)]
    while sum(shares) < total:
        first = rests.index(max(rests))
        shares[first] += 1
        rests[first] = -1
    return shares


def plain_duties(tariff, parcels):
    """The duties by the words of point 40."""
    told = {}
    for one in parcels:
        group = sorted([other.ticket, other] for other in parcels
                       if (other.sender, other.receiver, other.taken // 24) == (one.sender, one.receiver, one.taken // 24))
        group = [other for _, other in group]
        told[one.ticket] = 0
        if sum(other.worth for other in group) > tariff.free:
            classes = {(good.heading, origin(good, tariff.share)) for other in group for good in other.goods}
            for heading, land in classes:
                worths = [sum(good.worth for good in other.goods
                              if (good.heading, origin(good, tariff.share)) == (heading, land)) for other in group]
                rate = tariff.rate(heading, land) or 0
                duty = int(Fraction(sum(worths) * rate, 1000) + Fraction(1, 2))
                if sum(worths):
                    told[one.ticket] += plain_shares(duty, worths)[group.index(one)]
    return dict(sorted(told.items()))


class DutiesTest(unittest.TestCase):
    def setUp(self):
        self.tariff = Tariff("x", [("1", ANY, 100), ("2", ANY, BARRED), ("3", "no", 200)])

    def test_one_parcel(self):
        self.assertEqual(duties(self.tariff, [parcel(7, Good("1", 250, "no"))]), {7: 25})
        self.assertEqual(duties(self.tariff, [parcel(7)]), {7: 0})
        self.assertEqual(duties(self.tariff, []), {})

    def test_the_tickets_ascend(self):
        parcels = [parcel(ticket, Good("1", 10, "no"), taken=24 * ticket) for ticket in (10, 9, 2)]
        self.assertEqual(list(duties(self.tariff, parcels).items()), [(2, 1), (9, 1), (10, 1)])
        self.assertEqual(list(duties(self.tariff, tuple(parcels)).items()), [(2, 1), (9, 1), (10, 1)])

    def test_half_a_cent(self):
        tariff = Tariff("x", [("1", ANY, 5)])
        for worth, duty in [(99, 0), (100, 1), (299, 1), (300, 2), (0, 0)]:
            self.assertEqual(duties_of(tariff, worth), [duty])
        tariff = Tariff("x", [("1", ANY, 1)])
        self.assertEqual([duties_of(tariff, worth) for worth in (499, 500, 1499, 1500)], [[0], [1], [1], [2]])

    def test_a_class_is_rounded_once(self):
        self.assertEqual(duties_of(Tariff("x", [("1", ANY, 5)]), 50, 50), [1, 0])
        self.assertEqual(duties_of(Tariff("x", [("1", ANY, 5)]), 60, 60, 60), [1, 0, 0])

    def test_free_one_less_and_one_more(self):
        tariff = Tariff("x", [("1", ANY, 100)], free=300)
        self.assertEqual(duties_of(tariff, 100, 199), [0, 0])
        self.assertEqual(duties_of(tariff, 100, 200), [0, 0])
        self.assertEqual(duties_of(tariff, 100, 210), [10, 21])
        self.assertEqual(duties_of(tariff, 100, 201), [10, 20])

    def test_barred_classes(self):
        tariff = Tariff("x", [("1", ANY, 100), ("2", ANY, BARRED)], free=300)
        barred = Good("2", 299, "no")
        self.assertEqual(duties(tariff, [parcel(1, barred, Good("1", 20, "no"))]), {1: 2})
        self.assertEqual(duties(tariff, [parcel(1, barred), parcel(2, Good("1", 20, "no"))]), {1: 0, 2: 2})
        self.assertEqual(duties(tariff, [parcel(1, barred, Good("1", 1, "no"))]), {1: 0})

    def test_sender_receiver_and_day_alone_tell_consignments_apart(self):
        tariff = Tariff("x", [("1", ANY, 100)], free=100)
        goods = [Good("1", 60, "no")]
        for other in [{"sender": "ann"}, {"receiver": "ann"}, {"taken": 24}]:
            parcels = [parcel(1, *goods), parcel(2, *goods, **other)]
            self.assertEqual(duties(tariff, parcels), {1: 0, 2: 0})
        self.assertEqual(duties(tariff, [parcel(1, *goods), parcel(2, *goods, taken=23)]), {1: 6, 2: 6})
        parcels = [parcel(1, *goods), Parcel(2, "99", "t", 23, goods=goods, weight=4, days=1)]
        self.assertEqual(duties(tariff, parcels), {1: 6, 2: 6})
        parcels = [parcel(1, *goods, sender="b", receiver="a"), parcel(2, *goods, sender="a", receiver="b")]
        self.assertEqual(duties(tariff, parcels), {1: 0, 2: 0})

    def test_the_classes_by_heading_and_origin(self):
        tariff = Tariff("x", [("1", ANY, 5), ("1", "no", 15)])
        goods = [Good("1", 100, "no"), Good("1", 100, "li"), Good("12", 100, "li"), Good("1", 100, "li")]
        # 1.5, 1.0 and 0.5 cents.
        self.assertEqual(duties(tariff, [parcel(1, *goods)]), {1: 2 + 1 + 1})

    def test_the_origin_by_the_share_of_the_tariff(self):
        goods = [Good("1", 100, "li", [Good("1", 50, "no")])]
        for share, duty in [(49, 20), (50, 10)]:
            tariff = Tariff("x", [("1", ANY, 100), ("1", "no", 200)], share=share)
            self.assertEqual(duties(tariff, [parcel(1, *goods)]), {1: duty})

    def test_parts_cost_nothing_of_their_own(self):
        self.assertEqual(duties(self.tariff, [parcel(1, Good("4", 100, "li", [Good("1", 90, "li")]))]), {1: 0})

    def test_a_class_of_the_worth_0(self):
        nothing = Good("1", 0, "no")
        self.assertEqual(duties(self.tariff, [parcel(1, nothing), parcel(2, nothing, Good("4", 5, "no"))]), {1: 0, 2: 0})

    def test_the_shares_go_by_ascending_tickets(self):
        tariff = Tariff("x", [("1", ANY, 100)])
        parcels = [parcel(9, Good("1", 5, "no")), parcel(10, Good("1", 5, "no")), parcel(2, Good("1", 0, "no"))]
        self.assertEqual(duties(tariff, parcels), {2: 0, 9: 1, 10: 0})
        self.assertEqual(duties(tariff, parcels[::-1]), {2: 0, 9: 1, 10: 0})

    def test_how_the_goods_are_split_does_not_change_the_sum(self):
        goods = [Good("1", 33, "no"), Good("1", 52, "no"), Good("3", 7, "no"), Good("3", 8, "no")]
        whole = sum(duties(self.tariff, [parcel(1, *goods)]).values())
        for places in itertools.product([1, 2, 3], repeat=4):
            parcels = [parcel(ticket, *[good for good, place in zip(goods, places) if place == ticket])
                       for ticket in (1, 2, 3)]
            self.assertEqual(sum(duties(self.tariff, parcels).values()), whole)

    def test_against_the_words(self):
        chance = random.Random(40)
        total = 0
        for _ in range(300):
            tariff = Tariff("x", [("1", ANY, chance.choice([1, 5, 33, 500])), ("12", "no", 7), ("2", "no", BARRED)],
                            free=chance.choice([0, 50, 200]), share=chance.choice([0, 50]))
            parcels = []
            for ticket in chance.sample(range(1, 30), chance.randint(0, 5)):
                goods = [Good(chance.choice(["1", "12", "2"]), chance.randint(0, 99), chance.choice(["no", "li"]),
                              [Good("1", 0, "se")] if chance.random() < 0.3 else []) for _ in range(chance.randint(0, 4))]
                parcels.append(parcel(ticket, *goods, taken=chance.choice([0, 23, 24]), sender=chance.choice(["a", "b"])))
            told = duties(tariff, parcels)
            self.assertEqual(list(told.items()), list(plain_duties(tariff, parcels).items()))
            total += sum(told.values())
        self.assertGreater(total, 1000)

    def test_nothing_is_changed(self):
        parcels = [parcel(3), parcel(1)]
        duties(self.tariff, parcels).clear()
        self.assertEqual([one.ticket for one in parcels], [3, 1])


class ShareOutTest(unittest.TestCase):
    def test_the_words(self):
        self.assertEqual(share_out(10, [1, 1, 1]), [4, 3, 3])
        self.assertEqual(share_out(10, (1, 1, 1)), [4, 3, 3])
        self.assertEqual(share_out(100, [1, 2, 3]), [17, 33, 50])
        self.assertEqual(share_out(0, [1, 2]), [0, 0])
        self.assertEqual(share_out(7, [1]), [7])

    def test_equal_remainders(self):
        self.assertEqual(share_out(2, [1, 1, 1, 1]), [1, 1, 0, 0])
        self.assertEqual(share_out(3, [2, 1, 1, 2]), [1, 1, 0, 1])
        self.assertEqual(share_out(1, [0, 1, 1]), [0, 1, 0])

    def test_the_greatest_remainder_comes_first(self):
        self.assertEqual(share_out(1, [1, 2]), [0, 1])
        self.assertEqual(share_out(10, [6, 6, 7]), [3, 3, 4])

    def test_weights_that_are_all_0(self):
        self.assertEqual(share_out(5, [0, 0, 0]), [5, 0, 0])
        self.assertEqual(share_out(0, [0]), [0])
        self.assertEqual(share_out(5, [0]), [5])

    def test_the_empty_list(self):
        self.assertEqual(share_out(5, []), [])
        self.assertEqual(share_out(0, []), [])
        self.assertEqual(raised(share_out, -1, []), invalid("weights"))

    def test_negative_numbers(self):
        self.assertEqual(raised(share_out, -1, [1]), invalid("weights"))
        self.assertEqual(raised(share_out, 1, [-1]), invalid("weights"))
        self.assertEqual(raised(share_out, 1, [3, -1, 4]), invalid("weights"))
        self.assertEqual(raised(share_out, 1, [1, -1]), invalid("weights"))

    def test_against_the_words(self):
        for weights in itertools.product(range(5), repeat=3):
            for total in range(12):
                if sum(weights):
                    shares = share_out(total, weights)
                    self.assertEqual(shares, plain_shares(total, weights))
                    self.assertEqual(sum(shares), total)
                    for share, weight in zip(shares, weights):
                        self.assertLess(abs(share - Fraction(total * weight, sum(weights))), 1)

    def test_the_weights_stay(self):
        weights = [1, 2]
        share_out(5, weights).append(3)
        self.assertEqual(weights, [1, 2])


class ClearsTest(unittest.TestCase):
    def test_a_land_without_a_tariff(self):
        barred = parcel(1, Good("1", 5, "no"))
        tariffs = {"x": Tariff("x", [("1", ANY, BARRED)])}
        self.assertTrue(clears({}, "x", barred))
        self.assertTrue(clears(tariffs, "y", barred))
        self.assertFalse(clears(tariffs, "x", barred))
        self.assertTrue(clears(tariffs, "x", parcel(1)))
        self.assertTrue(clears(tariffs, "x", parcel(1, Good("2", 5, "no"))))

    def test_a_tariff_that_is_made_out_for_another_land(self):
        barred = parcel(1, Good("1", 5, "no"))
        tariffs = {"x": Tariff("y", [("1", ANY, BARRED)]), "y": Tariff("x", [])}
        self.assertFalse(clears(tariffs, "x", barred))
        self.assertTrue(clears(tariffs, "y", barred))


if __name__ == "__main__":
    unittest.main()
