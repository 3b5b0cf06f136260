"""Points 79 to 81: charges and prices."""

import unittest

from everyparcel.charges import Charge, Cover, Duty, Express, Postage, Prices, Refund, Toll
from everyparcel.duties import duties
from everyparcel.goods import Good
from everyparcel.network import Closing, Network, Site, Trip
from everyparcel.parcels import Parcel
from everyparcel.sorting import Sorting
from everyparcel.tariffs import ANY, Tariff
from everyparcel.worlds import World
from tests.helpers import invalid, raised

KINDS = ["taken", "packed", "loaded", "landed", "found", "emptied", "cleared", "out", "mislaid", "claimed"]
ANN, BOB, H, K = ("sender", "ann"), ("sender", "bob"), ("house", "h"), ("house", "k")
# A parcel that is due at the tick 47, and claimed at the tick 71.
GOODS = [Good("12", 700, "x"), Good("13", 300, "x")]


def world_of(parcels=None, tariffs=None, wait=1):
    sites = [Site("a", "h", "x", "1"), Site("b", "k", "y", "2")]
    trips = [Trip("t", "a", "b", 5, 9, toll=6), Trip("u", "b", "a", 5, 9, toll=7), Trip("v", "a", "b", 5, 9)]
    network = Network(sites, trips, [Closing("c", "a", "b", 5)])
    if parcels is None:
        parcels = [Parcel(1, "2", "a", 3, sender="ann", weight=4, days=1, goods=GOODS),
                   Parcel(2, "1", "b", 4, sender="bob"), Parcel(3, "2", "a", 5, sender="bob", days=0)]
    return World(network, Sorting({}), parcels, tariffs=tariffs, wait=wait)


def where_of(kind):
    return {"packed": "c", "loaded": "t"}.get(kind, "a")


class KindsTest(unittest.TestCase):
    """Each kind of charge at its event, and at all other kinds of events."""

    def check(self, charge, told, unit=1, tickets=(1,), tick=99, world=None):
        """What is told for each kind of event; a kind that is not named makes no posting."""
        for kind in KINDS:
            event = (tick, kind, unit, where_of(kind))
            found = charge.postings(world_of() if world is None else world, event, list(tickets))
            self.assertEqual(found, told.get(kind, []), kind)

    def test_the_base_class(self):
        self.assertEqual(Charge("any word").word, "any word")
        self.check(Charge("postage"), {})
        self.check(Charge(""), {}, unit="c", tickets=(1, 2))

    def test_postage(self):
        self.assertEqual(Postage(400, 3).word, "postage")
        self.check(Postage(400, 3), {"taken": [(99, ANN, H, 412, "postage", 1)]})
        self.check(Postage(400, 3), {"taken": [(99, BOB, K, 403, "postage", 2)]}, 2, (2,))
        self.check(Postage(0, 1), {"taken": [(99, ANN, H, 4, "postage", 1)]})
        self.check(Postage(1, 0), {"taken": [(99, ANN, H, 1, "postage", 1)]})
        self.check(Postage(0, 0), {})

    def test_express(self):
        self.assertEqual(Express(400, 3, 100).word, "postage")
        self.assertIsInstance(Express(1, 1, 1), Postage)
        for days, cents in [(None, 412), (0, 512), (1, 462), (2, 445), (98, 413), (99, 413), (100, 412)]:
            parcel = Parcel(1, "2", "a", 3, weight=4, days=days)
            self.assertEqual(Express(400, 3, 100).fee(parcel), cents)
        self.check(Express(400, 3, 101), {"taken": [(99, ANN, H, 462, "postage", 1)]})
        self.check(Express(400, 3, 101), {"taken": [(99, BOB, K, 403, "postage", 2)]}, 2, (2,))
        self.check(Express(400, 3, 101), {"taken": [(99, BOB, H, 504, "postage", 3)]}, 3, (3,))

    def test_fees(self):
        parcel = Parcel(1, "2", "a", 3, weight=4, days=0)
        for charge, cents in [(Postage(10, 2), 18), (Refund(10, 2), 18), (Express(10, 2, 7), 25)]:
            self.assertEqual(charge.fee(parcel), cents)

    def test_toll(self):
        self.assertEqual(Toll().word, "toll")
        # The trip t leaves from a, which the house h runs.
        self.check(Toll(), {})
        self.check(Toll(), {"loaded": [(99, K, H, 6, "toll", 2)]}, 2, (2,))
        self.check(Toll(), {"loaded": [(99, K, H, 6, "toll", 2)]}, "c", (1, 2, 3))
        world = world_of()
        self.assertEqual(Toll().postings(world, (5, "loaded", "c", "u"), [1, 2, 3]),
                         [(5, H, K, 7, "toll", 1), (5, H, K, 7, "toll", 3)])
        self.assertEqual(Toll().postings(world, (5, "loaded", 2, "v"), [2]), [])

    def test_tickets_in_their_order(self):
        world = world_of()
        event = (5, "taken", "c", "a")
        self.assertEqual([posting[5] for posting in Postage(1, 1).postings(world, event, [1, 2, 3])], [1, 2, 3])
        self.assertEqual(Postage(1, 1).postings(world, event, []), [])
        self.assertEqual([posting[5] for posting in Toll().postings(world, (5, "loaded", "c", "u"), (1, 3))], [1, 3])
        self.assertEqual([posting[5] for posting in Refund(1, 1).postings(world, (99, "out", 1, "a"), [1, 3])], [1, 3])
        told = Cover(9).postings(world, (99, "out", 1, "a"), [1, 2, 3])
        self.assertEqual([posting[4:] for posting in told], [("return", 1)])

    def test_refund(self):
        self.assertEqual(Refund(400, 3).word, "refund")
        self.assertIsInstance(Refund(1, 1), Postage)
        self.check(Refund(400, 3), {"out": [(48, H, ANN, 412, "refund", 1)]}, tick=48)
        self.check(Refund(400, 3), {}, tick=47)
        self.check(Refund(400, 3), {"out": [(24, H, BOB, 403, "refund", 3)]}, 3, (3,), tick=24)
        self.check(Refund(400, 3), {}, 3, (3,), tick=23)
        self.check(Refund(0, 0), {}, tick=48)
        self.check(Refund(400, 3), {}, 2, (2,))

    def test_cover_below_at_and_above_the_limit(self):
        self.assertEqual(Cover(9).word, "cover")
        for limit, cents in [(999, 999), (1000, 1000), (1001, 1000), (50000, 1000), (1, 1)]:
            self.check(Cover(limit), {"claimed": [(71, H, ANN, cents, "cover", 1)]}, tick=71)
            told = {"claimed": [(72, H, ANN, cents, "cover", 1)], "out": [(72, ANN, H, cents, "return", 1)]}
            self.check(Cover(limit), told, tick=72)
        self.check(Cover(0), {}, tick=72)
        # A parcel without goods has no worth.
        self.check(Cover(500), {}, 3, (3,), tick=999)

    def test_cover_without_a_claim_tick(self):
        self.check(Cover(500), {"claimed": [(99, H, ANN, 500, "cover", 1)]}, world=world_of(wait=None))
        parcels = [Parcel(1, "2", "a", 3, sender="ann", goods=GOODS)]
        self.check(Cover(500), {"claimed": [(99, H, ANN, 500, "cover", 1)]}, world=world_of(parcels))
        self.check(Cover(500), {"claimed": [(48, H, ANN, 500, "cover", 1)], "out": [(48, ANN, H, 500, "return", 1)]},
                   tick=48, world=world_of(wait=0))


class DutyTest(unittest.TestCase):
    def cleared(self, world, ticket, site="b"):
        return Duty().postings(world, (30, "cleared", ticket, site), [ticket])

    def test_a_land_with_a_tariff_and_without(self):
        self.assertEqual(Duty().word, "duty")
        tariffs = {"y": Tariff("z", [("1", ANY, 100)])}
        world = world_of(tariffs=tariffs)
        for kind in KINDS:
            for where in ["a", "b"]:
                told = [(30, ANN, ("land", "y"), 100, "duty", 1)] if (kind, where) == ("cleared", "b") else []
                where = where_of(kind) if kind in ("packed", "loaded") else where
                self.assertEqual(Duty().postings(world, (30, kind, 1, where), [1]), told)
        self.assertEqual(self.cleared(world_of(), 1), [])
        self.assertEqual(self.cleared(world_of(tariffs={"x": tariffs["y"]}), 1), [])
        self.assertEqual(self.cleared(world_of(tariffs={"x": tariffs["y"]}), 1, "a"),
                         [(30, ANN, ("land", "x"), 100, "duty", 1)])

    def test_no_posting_of_less_than_a_cent(self):
        tariffs = {"y": Tariff("y", [("1", ANY, 100)], free=1000)}
        self.assertEqual(self.cleared(world_of(tariffs=tariffs), 1), [])
        self.assertEqual(self.cleared(world_of(tariffs={"y": Tariff("y", [])}), 1), [])
        self.assertEqual(self.cleared(world_of(tariffs={"y": Tariff("y", [("1", ANY, 100)])}), 2), [])

    def test_shared_among_the_parcels_of_a_consignment_wherever_they_go(self):
        tariff = Tariff("y", [("1", ANY, 100)], free=30)
        good = Good("12", 15, "x")
        # 4.5 cents are rounded up to 5 and shared: two for the first two, one for the last one.
        parcels = [Parcel(1, "2", "a", 3, goods=[good]), Parcel(2, "1", "b", 23, goods=[good]),
                   Parcel(3, "9", "a", 4, goods=[good]), Parcel(4, "2", "a", 24, goods=[good]),
                   Parcel(5, "2", "a", 3, goods=[good], sender="ann"),
                   Parcel(6, "2", "a", 3, goods=[good], receiver="ann")]
        world = world_of(parcels, {"y": tariff})
        self.assertEqual(duties(tariff, parcels), {1: 2, 2: 2, 3: 1, 4: 0, 5: 0, 6: 0})
        for ticket, cents in [(1, 2), (2, 2), (3, 1)]:
            told = [(30, ("sender", "sender"), ("land", "y"), cents, "duty", ticket)]
            self.assertEqual(self.cleared(world, ticket), told)
        for ticket in (4, 5, 6):
            self.assertEqual(self.cleared(world, ticket), [])
        # A parcel more in the consignment changes what the others owe.
        less = world_of(parcels[:2], {"y": tariff})
        self.assertEqual(self.cleared(less, 1), [])

    def test_a_negative_argument_each(self):
        for call, given in [(Postage, (1, 1)), (Refund, (1, 1)), (Express, (1, 1, 1)), (Cover, (1,))]:
            self.assertIsNone(raised(call, *given))
            self.assertIsNone(raised(call, *[0 for _ in given]))
            for place in range(len(given)):
                wrong = [-1 if at == place else 1 for at in range(len(given))]
                self.assertEqual(raised(call, *wrong), invalid("charge"))


class PricesTest(unittest.TestCase):
    def test_two_charges_of_one_word(self):
        self.assertEqual(raised(Prices, Postage(1, 1), Express(1, 1, 1)), invalid("prices"))
        self.assertEqual(raised(Prices, Charge("toll"), Postage(1, 1), Toll()), invalid("prices"))
        self.assertEqual(raised(Prices, Postage(1, 1), Postage(1, 1)), invalid("prices"))
        self.assertIsNone(raised(Prices, Postage(1, 1), Refund(1, 1), Charge("return"), Cover(3)))

    def test_the_words_in_their_order(self):
        self.assertEqual(Prices().words(), [])
        prices = Prices(Toll(), Charge("b"), Charge("a"), Express(1, 1, 1))
        self.assertEqual(prices.words(), ["toll", "b", "a", "postage"])

    def test_the_usual_ones(self):
        prices = Prices.usual()
        self.assertIsInstance(prices, Prices)
        self.assertEqual(prices.words(), ["postage", "toll", "duty", "refund", "cover"])
        goods = [Good("12", 60000, "x")]
        parcels = [Parcel(1, "2", "a", 3, weight=2, days=0, goods=goods), Parcel(2, "2", "b", 3, weight=5)]
        world = world_of(parcels, {"y": Tariff("y", [("1", ANY, 1)])})
        sender = ("sender", "sender")
        for event, told in [((3, "taken", 1, "a"), [(3, sender, H, 406, "postage", 1)]),
                            ((5, "loaded", 2, "t"), [(5, K, H, 6, "toll", 2)]),
                            ((9, "cleared", 1, "b"), [(9, sender, ("land", "y"), 60, "duty", 1)]),
                            ((47, "claimed", 1, "a"), [(47, H, sender, 50000, "cover", 1)]),
                            ((48, "out", 1, "b"), [(48, H, sender, 406, "refund", 1),
                                                   (48, sender, H, 50000, "return", 1)])]:
            self.assertEqual(prices.postings(world, event, [event[2]]), told)

    def test_the_charges_in_their_order(self):
        world = world_of(wait=0)
        out = (48, "out", 1, "b")
        one, other = Refund(1, 1), Cover(7)
        told = [(48, H, ANN, 5, "refund", 1), (48, ANN, H, 7, "return", 1)]
        self.assertEqual(Prices(one, other).postings(world, out, [1]), told)
        self.assertEqual(Prices(other, one).postings(world, out, [1]), told[::-1])
        self.assertEqual(Prices().postings(world, out, [1]), [])
        both = Prices(one, other).postings(world, out, [1, 3])
        self.assertEqual([posting[4:] for posting in both], [("refund", 1), ("refund", 3), ("return", 1)])

    def test_the_lists_are_new(self):
        prices, world = Prices.usual(), world_of()
        prices.words().clear()
        prices.postings(world, (3, "taken", 1, "a"), [1]).clear()
        Postage(1, 1).postings(world, (3, "taken", 1, "a"), [1]).clear()
        self.assertEqual(len(prices.words()), 5)
        self.assertEqual(len(prices.postings(world, (3, "taken", 1, "a"), [1])), 1)
        tickets = [1, 2]
        prices.postings(world, (3, "taken", 1, "a"), tickets)
        self.assertEqual(tickets, [1, 2])


if __name__ == "__main__":
    unittest.main()
