"""Points 10 and 14: repeated ticks and trips, and the texts of a timetable."""

import unittest

from everyparcel.network import Network, Trip
from everyparcel.timetable import DAY, daily, read_trip, repeated, timetable_text, trip_text
from tests.helpers import invalid, mixed_network, raised, sites_of, small_network

PARTS = ["t1", "s", "n", "5", "8", "2", "9", "0"]


def with_part(place, text):
    return " ".join(PARTS[:place] + [text] + PARTS[place + 1:])


class DailyTest(unittest.TestCase):
    def test_the_ticks(self):
        self.assertEqual(DAY, 24)
        self.assertEqual(daily(8, 0, 3), [8, 32, 56])
        self.assertEqual(daily(0, 2, 2), [48, 72])
        self.assertEqual(daily(23, 1, 1), [47])

    def test_no_days(self):
        self.assertEqual(daily(8, 4, 0), [])


class RepeatedTest(unittest.TestCase):
    def test_the_trips(self):
        trip = Trip("t", "s", "n", 5, 8, late=2, room=3, toll=4)
        lines = [trip_text(each) for each in repeated(trip, 24, 3)]
        self.assertEqual(lines, ["tx0 s n 5 8 2 3 4", "tx1 s n 29 32 2 3 4", "tx2 s n 53 56 2 3 4"])
        self.assertEqual((trip.name, trip.leaves), ("t", 5))

    def test_once(self):
        self.assertEqual([trip_text(each) for each in repeated(Trip("t", "s", "n", 5, 8), 1, 1)], ["tx0 s n 5 8 0 9 0"])

    def test_the_names_may_get_too_long(self):
        ten = Trip("abcdefghij", "s", "n", 5, 8)
        self.assertEqual(repeated(ten, 1, 10)[9].name, "abcdefghijx9")
        self.assertEqual(raised(repeated, ten, 1, 11), invalid("trip"))
        eleven = Trip("abcdefghijk", "s", "n", 5, 8)
        self.assertEqual(raised(repeated, eleven, 1, 1), invalid("trip"))


class TextTest(unittest.TestCase):
    def test_the_line_of_a_trip(self):
        self.assertEqual(trip_text(small_network().trip("t1")), "t1 s n 5 8 2 9 0")
        self.assertEqual(trip_text(Trip("t", "a", "b", 0, 10, late=11, room=0, toll=12)), "t a b 0 10 11 0 12")

    def test_the_trip_of_a_line(self):
        trip = read_trip("t a b 0 10 11 12 13")
        self.assertEqual((trip.name, trip.start, trip.goal), ("t", "a", "b"))
        self.assertEqual((trip.leaves, trip.lands, trip.late, trip.room, trip.toll), (0, 10, 11, 12, 13))

    def test_reading_and_writing(self):
        for trip in mixed_network().trips:
            self.assertEqual(trip_text(read_trip(trip_text(trip))), trip_text(trip))

    def test_the_number_of_parts(self):
        for line in ["", " ", "t1", "t1 s n 5 8 2 9", "t1 s n 5 8 2 9 0 0"]:
            self.assertEqual(raised(read_trip, line), invalid("line"), line)

    def test_empty_parts_and_spaces(self):
        line = " ".join(PARTS)
        for wrong in [" " + line, line + " ", line.replace(" s ", "  s "), line.replace("s n", "s  n")]:
            self.assertEqual(raised(read_trip, wrong), invalid("line"), wrong)
        for place in range(8):
            self.assertEqual(raised(read_trip, with_part(place, "")), invalid("line"), place)
        for wrong in [" s n 5 8 2 9 0", "t1 s n 5 8 2 9 ", line.replace(" ", "\n"), line.replace("s n", "s\tn")]:
            self.assertEqual(raised(read_trip, wrong), invalid("line"), wrong)

    def test_the_numbers(self):
        for place in range(3, 8):
            for wrong in ["x", "-1", "+1", "1.0", "1_0", "0x1", "01", "00", "9" * 13, "9" * 5000, "8\n", "\u0663"]:
                self.assertEqual(raised(read_trip, with_part(place, wrong)), invalid("line"), wrong)

    def test_twelve_digits(self):
        self.assertEqual(read_trip(with_part(4, "9" * 12)).lands, 10 ** 12 - 1)
        self.assertEqual(read_trip(with_part(5, "9" * 12)).late, 10 ** 12 - 1)
        self.assertEqual(raised(read_trip, with_part(4, "1" + "0" * 12)), invalid("line"))

    def test_zero(self):
        self.assertEqual(read_trip(with_part(3, "0")).leaves, 0)
        self.assertEqual(read_trip(with_part(6, "0")).room, 0)

    def test_the_errors_of_the_trip_come_behind_those_of_the_line(self):
        for place, part in [(0, "T"), (0, "a" * 13), (1, "1"), (2, "s"), (4, "5"), (4, "0"), (0, "t\n")]:
            self.assertEqual(raised(read_trip, with_part(place, part)), invalid("trip"), part)
        self.assertEqual(raised(read_trip, "T S S 5 5 2 9 00"), invalid("line"))
        self.assertEqual(raised(read_trip, "T S S 5 5 2 9"), invalid("line"))

    def test_the_text_of_a_network(self):
        self.assertEqual(timetable_text(small_network()), "t1 s n 5 8 2 9 0\n")
        text = "k a b 2 9 0 9 0\na c a 5 6 0 9 0\nz b c 5 9 0 9 0\nb a b 11 12 0 9 0\n"
        self.assertEqual(timetable_text(mixed_network()), text)
        self.assertEqual(timetable_text(Network(sites_of("ab"), [], [])), "")


if __name__ == "__main__":
    unittest.main()
