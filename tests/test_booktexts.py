"""Point 60: the texts of books."""

import itertools
import random
import unittest

from everyparcel.books import Book
from everyparcel.booktexts import book_text, read_book
from tests.helpers import NAMES, NOT_NAMES, raised

KINDS = ["taken", "packed", "loaded", "landed", "found", "emptied", "cleared", "out", "seen", "aboard"]

TEXT = (
    "heard h 5\n"
    "heard k 0\n"
    "record 3 taken 1 a\n"
    "record 3 taken 10 a\n"
    "record 3 taken 2 a\n"
    "record 3 taken b1 a\n"
    "record 3 taken 1 b\n"
    "record 10 seen 1 a\n"
    "struck 0 aboard 2 t\n"
    "struck 3 taken 1 a\n"
)


def bad(line):
    return ("BadLine", {"line": line})


class WritingTest(unittest.TestCase):
    def test_the_text(self):
        records = [(3, "taken", 1, "a"), (3, "taken", 2, "a"), (3, "taken", 10, "a"), (3, "taken", "b1", "a"),
                   (3, "taken", 1, "b"), (10, "seen", 1, "a")]
        book = Book({"k": 0, "h": 5}, records, [(3, "taken", 1, "a"), (0, "aboard", 2, "t")])
        self.assertEqual(book_text(book), TEXT)
        self.assertTrue(read_book(TEXT) == book)

    def test_the_empty_book(self):
        self.assertEqual(book_text(Book()), "")
        self.assertTrue(read_book("") == Book())

    def test_each_part_alone(self):
        self.assertEqual(book_text(Book({"h": 7})), "heard h 7\n")
        self.assertEqual(book_text(Book({}, [(1, "out", 7, "z")])), "record 1 out 7 z\n")
        self.assertEqual(book_text(Book({}, [], [(1, "out", 7, "z")])), "struck 1 out 7 z\n")


class ReadingTest(unittest.TestCase):
    def check(self, line, told):
        """What reading the line alone, and behind two other lines, gives."""
        self.assertEqual(raised(read_book, line + "\n"), told and bad(1))
        self.assertEqual(raised(read_book, "heard a 1\nheard b 1\n" + line + "\n"), told and bad(3))

    def right(self, line):
        self.check(line, None)
        self.assertEqual(book_text(read_book(line + "\n")), line + "\n")

    def wrong(self, line):
        self.check(line, True)

    def test_the_values(self):
        book = read_book("heard h 12\nrecord 3 taken 7 a\nrecord 4 seen b1 a\nstruck 0 aboard 2 t\n")
        self.assertEqual(book.heard, {"h": 12})
        self.assertEqual(book.records, [(3, "taken", 7, "a"), (4, "seen", "b1", "a")])
        self.assertEqual(book.struck, [(0, "aboard", 2, "t")])

    def test_words_too_many_or_too_few(self):
        for line in ["heard h 1", "record 1 out 2 b", "struck 1 out 2 b"]:
            self.right(line if line[0] != "h" else "heard c 1")
            words = line.split(" ")
            for many in range(len(words)):
                self.wrong(" ".join(words[:many]))
                self.wrong(" ".join(words[:many] + words[many + 1:]))
            self.wrong(line + " 1")
            self.wrong(line + " b")

    def test_spaces(self):
        for line in ["heard c 1", "record 1 out 2 b", "struck 1 out 2 b"]:
            for at in range(len(line) + 1):
                self.wrong(line[:at] + " " + line[at:])
                if at < len(line) and line[at] == " ":
                    for sign in ["\t", ",", "_", "-", ""]:
                        self.wrong(line[:at] + sign + line[at + 1:])

    def test_other_words(self):
        for word in ["Heard", "hear", "records", "strike", "", "1", "note"]:
            self.wrong(f"{word} c 1")
            self.wrong(f"{word} 1 out 2 b")
        self.wrong("heard 1 out 2 b")
        self.wrong("record c 1")
        self.wrong("struck c 1")

    def test_ticks(self):
        for tick in ["0", "9", "10", "123456789", "1000000", "1000001", "999999999"]:
            self.right(f"heard c {tick}")
            self.right(f"record {tick} out 2 b")
            self.right(f"struck {tick} out 2 b")
        for tick in ["00", "01", "007", "1234567890", "-1", "+1", "1.0", "a", "1a", "", "1_0", "9" * 5000]:
            self.wrong(f"heard c {tick}")
            self.wrong(f"record {tick} out 2 b")
            self.wrong(f"struck {tick} out 2 b")

    def test_units(self):
        for unit in ["1", "999999999", "10", "b", "b1", "abcdefghijkl"]:
            self.right(f"record 1 out {unit} b")
            self.right(f"struck 1 out {unit} b")
        for unit in ["0", "01", "1000000000", "-1", "1a", "B", "abcdefghijklm", "", "9" * 5000]:
            self.wrong(f"record 1 out {unit} b")
            self.wrong(f"struck 1 out {unit} b")

    def test_names(self):
        for name in NAMES:
            self.assertIsNone(raised(read_book, f"heard {name} 1\n"))
            self.right(f"record 1 out 2 {name}")
            self.right(f"struck 1 out 2 {name}")
        for name in NOT_NAMES + ["1", "12"]:
            if "\n" not in name:
                self.wrong(f"heard {name} 1")
                self.wrong(f"record 1 out 2 {name}")
                self.wrong(f"struck 1 out 2 {name}")

    def test_kinds(self):
        for kind in KINDS:
            self.right(f"record 1 {kind} 2 b")
            self.right(f"struck 1 {kind} 2 b")
        for kind in ["mislaid", "claimed", "Out", "", "ou", "outs", "at", "heard"]:
            self.wrong(f"record 1 {kind} 2 b")
            self.wrong(f"struck 1 {kind} 2 b")

    def test_an_empty_line(self):
        self.assertEqual(raised(read_book, "\n"), bad(1))
        self.assertEqual(raised(read_book, "\nheard h 1\n"), bad(1))
        self.assertEqual(raised(read_book, "heard h 1\n\n"), bad(2))
        self.assertEqual(raised(read_book, "heard h 1\n\nheard k 1\n"), bad(2))
        self.assertEqual(raised(read_book, "heard h 1\n \n"), bad(2))

    def test_other_ends_of_lines(self):
        for end in ["\r", "\r\n", "\x0b", "\x0c", "\u2028"]:
            self.assertEqual(raised(read_book, f"heard h 1{end}heard k 1\n"), bad(1))

    def test_no_newline_at_the_end(self):
        lines = TEXT.splitlines(True)
        for many in range(1, len(lines) + 1):
            self.assertEqual(raised(read_book, "".join(lines[:many])[:-1]), bad(many))
        self.assertEqual(raised(read_book, "heard h 1\nheard h 1\nheard k 1"), bad(2))
        self.assertEqual(raised(read_book, "heard h 1\nnothing"), bad(2))
        self.assertEqual(raised(read_book, "heard h 1\n "), bad(2))
        self.assertEqual(raised(read_book, " "), bad(1))

    def test_each_pair_of_lines_in_the_wrong_order(self):
        lines = TEXT.splitlines(True)
        for first, second in itertools.combinations(range(len(lines)), 2):
            self.assertIsNone(raised(read_book, lines[first] + lines[second]))
            self.assertEqual(raised(read_book, lines[second] + lines[first]), bad(2))

    def test_a_line_twice(self):
        lines = TEXT.splitlines(True)
        for number, line in enumerate(lines):
            self.assertEqual(raised(read_book, line + line), bad(2))
            self.assertEqual(raised(read_book, "".join(lines[:number + 1] + lines[number:])), bad(number + 2))

    def test_a_house_twice(self):
        self.assertEqual(raised(read_book, "heard h 1\nheard h 2\n"), bad(2))
        self.assertEqual(raised(read_book, "heard h 2\nheard h 1\n"), bad(2))

    def test_heard_behind_record(self):
        self.assertEqual(raised(read_book, "record 1 out 2 b\nheard h 1\n"), bad(2))
        self.assertEqual(raised(read_book, "struck 1 out 2 b\nheard h 1\n"), bad(2))
        self.assertEqual(raised(read_book, "struck 1 out 2 b\nrecord 2 out 2 b\n"), bad(2))

    def test_a_record_may_be_struck_too(self):
        self.assertIsNone(raised(read_book, "record 5 out 2 b\nstruck 1 out 2 b\nstruck 5 out 2 b\n"))

    def test_ticks_are_compared_as_numbers_and_tickets_as_strings(self):
        self.assertIsNone(raised(read_book, "record 9 out 2 b\nrecord 10 out 2 b\n"))
        self.assertEqual(raised(read_book, "record 10 out 2 b\nrecord 9 out 2 b\n"), bad(2))
        self.assertIsNone(raised(read_book, "record 1 out 10 b\nrecord 1 out 9 b\n"))
        self.assertEqual(raised(read_book, "record 1 out 9 b\nrecord 1 out 10 b\n"), bad(2))
        self.assertIsNone(raised(read_book, "record 1 out 9 b\nrecord 1 out 10 c\n"))
        self.assertIsNone(raised(read_book, "record 1 out 9 c\nrecord 1 taken 1 a\n"))

    def test_the_first_of_several_wrong_lines(self):
        lines = TEXT.splitlines(True)
        for first, second in itertools.combinations(range(len(lines)), 2):
            wrong = list(lines)
            wrong[second] = "wrong\n"
            self.assertEqual(raised(read_book, "".join(wrong)), bad(second + 1))
            wrong[first] = "wrong\n"
            self.assertEqual(raised(read_book, "".join(wrong)), bad(first + 1))
            self.assertEqual(raised(read_book, "".join(wrong)[:-1]), bad(first + 1))

    def test_there_and_back(self):
        chance = random.Random(60)
        for _ in range(300):
            def records():
                return [(chance.choice([0, 3, 12, 10 ** 6 + 1]), chance.choice(KINDS), chance.choice([1, 2, 10, "b", "b1"]),
                         chance.choice("abc")) for _ in range(chance.randint(0, 5))]
            heard = {house: chance.randint(0, 12) for house in chance.sample(["h", "k", "a1"], chance.randint(0, 3))}
            book = Book(heard, records(), records())
            text = book_text(book)
            self.assertTrue(read_book(text) == book)
            self.assertEqual(book_text(read_book(text)), text)

    def test_another_text_is_the_text_of_no_book(self):
        """Each text of a right one by another sign is refused, or is itself what book_text writes."""
        text = "heard h 10\nrecord 3 out 1 a\nrecord 3 out b a\nstruck 0 out 2 t\n"
        refused = 0
        for at in range(len(text)):
            for sign in ["", "0", "1", "a", " ", "\n", "A"]:
                for other in (text[:at] + sign + text[at + 1:], text[:at] + sign + text[at:]):
                    if raised(read_book, other) is None:
                        self.assertEqual(book_text(read_book(other)), other)
                    else:
                        self.assertEqual(raised(read_book, other)[0], "BadLine")
                        refused += 1
        self.assertGreater(refused, 300)


if __name__ == "__main__":
    unittest.main()
