"""Points 3, 35 and 39: goods and parcels."""

import unittest

from everyparcel.goods import Good
from everyparcel.parcels import Parcel
from tests.helpers import ADDRESSES, NAMES, NOT_ADDRESSES, NOT_NAMES, invalid, raised

GOOD = {"heading": "8703", "worth": 100, "land": "li"}
PARCEL = {"ticket": 1, "address": "21", "start": "s", "taken": 3}


def good_with(**other):
    return raised(Good, **{**GOOD, **other})


def parcel_with(**other):
    return raised(Parcel, **{**PARCEL, **other})


class GoodTest(unittest.TestCase):
    def test_the_attributes(self):
        part = Good("8708", 60, "no")
        good = Good("8703", 100, "li", [part])
        self.assertEqual((good.heading, good.worth, good.land, good.parts), ("8703", 100, "li", (part,)))
        self.assertEqual(part.parts, ())

    def test_the_chapter(self):
        for heading, chapter in [("8", "8"), ("87", "87"), ("8703", "87"), ("00000000", "00")]:
            self.assertEqual(Good(heading, 1, "li").chapter, chapter)

    def test_the_conditions(self):
        for text in ADDRESSES:
            self.assertIsNone(good_with(heading=text), text)
        for text in NOT_ADDRESSES:
            self.assertEqual(good_with(heading=text), invalid("good"), text)
        for text in NAMES:
            self.assertIsNone(good_with(land=text), text)
        for text in NOT_NAMES:
            self.assertEqual(good_with(land=text), invalid("good"), text)
        self.assertIsNone(good_with(worth=0))
        self.assertEqual(good_with(worth=-1), invalid("good"))

    def test_the_worths_of_the_parts(self):
        parts = [Good("1", 60, "no"), Good("1", 40, "no")]
        self.assertIsNone(good_with(parts=parts))
        self.assertEqual(good_with(parts=parts, worth=99), invalid("good"))
        self.assertIsNone(good_with(parts=parts[:1], worth=99))

    def test_the_parts_are_copied(self):
        parts = [Good("1", 60, "no")]
        good = Good("8703", 100, "li", parts)
        parts.append(Good("1", 1, "no"))
        self.assertEqual(len(good.parts), 1)


class ParcelTest(unittest.TestCase):
    def test_the_attributes(self):
        goods = (Good("1", 60, "no"), Good("2", 5, "no"))
        parcel = Parcel(7, "21", "s", 3, weight=4, days=2, sender="ann", receiver="bob", goods=list(goods))
        self.assertEqual((parcel.ticket, parcel.address, parcel.start, parcel.taken), (7, "21", "s", 3))
        self.assertEqual((parcel.weight, parcel.days, parcel.sender, parcel.receiver), (4, 2, "ann", "bob"))
        self.assertEqual(parcel.goods, goods)
        self.assertEqual(parcel.worth, 65)

    def test_the_options_left_out(self):
        parcel = Parcel(1, "21", "s", 3)
        self.assertEqual((parcel.weight, parcel.days, parcel.sender, parcel.receiver, parcel.goods),
                         (1, None, "sender", "receiver", ()))
        self.assertEqual(parcel.worth, 0)
        self.assertIsNone(parcel.due)

    def test_the_due_tick(self):
        for taken, days, due in [(0, 0, 23), (23, 0, 23), (24, 0, 47), (3, 1, 47), (23, 1, 47), (24, 2, 95)]:
            self.assertEqual(Parcel(1, "21", "s", taken, days=days).due, due)

    def test_the_names_and_the_address(self):
        for part in ["start", "sender", "receiver"]:
            for text in NAMES:
                self.assertIsNone(parcel_with(**{part: text}), text)
            for text in NOT_NAMES:
                self.assertEqual(parcel_with(**{part: text}), invalid("parcel"), text)
        for text in ADDRESSES:
            self.assertIsNone(parcel_with(address=text), text)
        for text in NOT_ADDRESSES:
            self.assertEqual(parcel_with(address=text), invalid("parcel"), text)

    def test_the_numbers(self):
        for part, least in [("ticket", 1), ("taken", 0), ("weight", 1), ("days", 0)]:
            self.assertIsNone(parcel_with(**{part: least}), part)
            self.assertEqual(parcel_with(**{part: least - 1}), invalid("parcel"), part)
        self.assertIsNone(parcel_with(days=None))
        self.assertIsNone(parcel_with(ticket=10 ** 9, taken=1000001))

    def test_the_goods_are_copied(self):
        goods = [Good("1", 60, "no")]
        parcel = Parcel(1, "21", "s", 3, goods=goods)
        goods.clear()
        self.assertEqual((len(parcel.goods), parcel.worth), (1, 60))


if __name__ == "__main__":
    unittest.main()
