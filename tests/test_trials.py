"""Point 92: trials of a house."""

import unittest

from everyparcel.books import Book
from everyparcel.errors import Contradiction, Invalid, ParcelError
from everyparcel.house import House, Trial, tried
from tests.helpers import raised, unknown
from tests.test_house import H, LANDED, SENDER, all_of, row_house, small_house
from tests.test_runs import too_many

DEEDS = [
    lambda desk: desk.accept("21", "s", 30, days=None), lambda desk: desk.hear("h", 9), lambda desk: desk.note(LANDED),
    lambda desk: desk.strike(LANDED), lambda desk: desk.take(Book({"k": 3}, [(8, "aboard", 1, "t1")])),
    lambda desk: desk.change_most(7), lambda desk: setattr(desk, "most", 99), lambda desk: desk.places(1, 8),
    lambda desk: desk.day_sure(1), lambda desk: desk.between(H), lambda desk: desk.balance(H),
    lambda desk: desk.settle(), lambda desk: (desk.world, desk.book, desk.prices, desk.course_count),
    lambda desk: (desk.journal, desk.most, len(desk), 1 in desk),
]
WRONG = [
    (lambda desk: desk.accept("x", "s", 30), "Invalid"), (lambda desk: desk.note((3, "taken", 9, "s")), "Unknown"),
    (lambda desk: desk.note((20, "seen", 1, "n")), "Contradiction"), (lambda desk: desk.change_most(0), "Invalid"),
    (lambda desk: desk.change_most(1), "TooMany"), (lambda desk: desk.accept("21", "s", 30, days=0), "Refused"),
    (lambda desk: desk.places(5, 3), "Unknown"),
]


class TrialTest(unittest.TestCase):
    def setUp(self):
        self.house = small_house(most=500)
        self.house.accept("21", "s", 3)
        self.house.hear("h", 2)
        self.before = all_of(self.house)

    def check_as_it_was(self):
        self.assertEqual(all_of(self.house), self.before)
        self.assertEqual(self.house.most, 500)

    def test_the_desk_is_the_house_itself(self):
        trial = self.house.trial()
        self.assertIsInstance(trial, Trial)
        with trial as desk:
            self.assertIs(desk, self.house)
        self.check_as_it_was()

    def test_each_method_inside(self):
        for deed in DEEDS:
            with self.house.trial() as desk:
                deed(desk)
            self.check_as_it_was()

    def test_all_methods_in_one_trial(self):
        with self.house.trial() as desk:
            for deed in DEEDS:
                deed(desk)
            self.assertEqual((len(desk), desk.most, desk.book.heard), (2, 99, {"h": 9, "k": 3}))
            self.assertIn(2, desk)
            self.assertEqual([entry[1][5] for entry in desk.journal], [1, 2])
            self.assertEqual(desk.balance(SENDER), -806)
        self.check_as_it_was()
        self.assertNotIn(2, self.house)
        self.assertEqual(self.house.accept("21", "s", 4), 2)

    def test_inside_the_changes_are_there(self):
        with self.house.trial() as desk:
            self.assertEqual(desk.accept("21", "s", 4), 2)
            self.assertEqual(desk.accept("21", "s", 4), 3)
            self.assertEqual(len(desk.note(LANDED)), 6)
            self.assertEqual(desk.places(1, 9), [("at", "n")])
        self.check_as_it_was()

    def test_errors_of_the_house(self):
        for deed, name in WRONG:
            with self.assertRaises(ParcelError) as caught:
                with self.house.trial() as desk:
                    desk.accept("21", "s", 4)
                    desk.most = 77
                    desk.note((5, "loaded", 1, "t1"))
                    deed(desk)
            self.assertEqual(type(caught.exception).__name__, name)
            self.check_as_it_was()

    def test_errors_of_another_kind(self):
        for error in [ValueError("x"), KeyError("x"), ZeroDivisionError(), KeyboardInterrupt(), StopIteration()]:
            with self.assertRaises(type(error)) as caught:
                with self.house.trial() as desk:
                    desk.accept("21", "s", 4)
                    raise error
            self.assertIs(caught.exception, error)
            self.check_as_it_was()

    def test_an_error_that_is_caught_inside(self):
        with self.house.trial() as desk:
            desk.accept("21", "s", 4)
            for deed, name in WRONG:
                inside = all_of(desk)
                self.assertEqual(raised(deed, desk)[0], name)
                self.assertEqual(all_of(desk), inside)
            self.assertEqual(len(desk), 2)
        self.check_as_it_was()

    def test_trials_in_trials(self):
        with self.house.trial() as desk:
            desk.accept("21", "s", 4)
            outer = all_of(desk)
            with desk.trial() as inner:
                inner.note(LANDED)
                middle = all_of(inner)
                with self.assertRaises(Contradiction):
                    with inner.trial() as last:
                        last.change_most(9)
                        last.note((20, "seen", 1, "n"))
                self.assertEqual(all_of(inner), middle)
                with self.house.trial():
                    self.house.accept("21", "s", 99)
                    self.assertEqual(len(self.house), 3)
                self.assertEqual(all_of(inner), middle)
            self.assertEqual(all_of(desk), outer)
            self.assertEqual(desk.accept("21", "s", 4), 3)
        self.check_as_it_was()

    def test_one_trial_in_several_statements(self):
        trial = self.house.trial()
        for _ in range(3):
            with trial as desk:
                self.assertEqual(desk.accept("21", "s", 4), 2)
            self.check_as_it_was()
        with self.assertRaises(Invalid):
            with trial:
                self.house.most = 0
        self.check_as_it_was()
        # It gives back what the house had when the statement began, not when the trial was made.
        self.house.note(LANDED)
        self.house.most = 400
        later = all_of(self.house)
        with trial as desk:
            desk.accept("21", "s", 40)
            desk.strike(LANDED)
        self.assertEqual(all_of(self.house), later)

    def test_a_return_out_of_a_trial(self):
        def asked():
            with self.house.trial() as desk:
                desk.accept("21", "s", 4)
                return desk.places(2, 30)
        self.assertEqual(asked(), [("out", "n")])
        self.check_as_it_was()

    def test_other_houses_are_not_touched(self):
        other = small_house()
        with self.house.trial():
            other.accept("21", "s", 3)
        self.assertEqual((len(other), len(self.house)), (1, 1))

    def test_what_was_returned_before_and_inside(self):
        book, journal, world = self.house.book, self.house.journal, self.house.world
        with self.house.trial() as desk:
            desk.accept("21", "s", 4)
            inside = desk.book
            inside.note(LANDED)
        self.assertEqual((book.records, len(journal), world.tickets), ([], 1, [1]))
        self.check_as_it_was()


class TriedTest(unittest.TestCase):
    def setUp(self):
        self.house = small_house()
        self.house.accept("21", "s", 3)
        self.before = all_of(self.house)

    def test_what_it_returns(self):
        for deed, told in [(lambda desk: desk.accept("21", "s", 4), 2), (lambda desk: desk is self.house, True),
                           (lambda desk: len(desk.note(LANDED)), 2), (lambda desk: None, None), (len, 1)]:
            self.assertEqual(tried(self.house, deed), told)
            self.assertEqual(all_of(self.house), self.before)

    def test_each_deed(self):
        for deed in DEEDS:
            tried(self.house, deed)
            self.assertEqual(all_of(self.house), self.before)

    def test_what_it_raises(self):
        for deed, name in WRONG:
            self.assertEqual(raised(tried, self.house, deed)[0], name)
            self.assertEqual(all_of(self.house), self.before)
        with self.assertRaises(ZeroDivisionError):
            tried(self.house, lambda desk: desk.accept("21", "s", 4) // 0)
        self.assertEqual(all_of(self.house), self.before)
        self.assertEqual(raised(tried, self.house, lambda desk: desk.places(9, 3)), unknown(9))
        self.assertEqual(raised(tried, self.house, lambda desk: desk.change_most(1)), too_many(1, 8))

    def test_tried_in_tried(self):
        def deed(desk):
            desk.accept("21", "s", 4)
            told = tried(desk, lambda inner: inner.accept("21", "s", 4))
            return (told, len(desk))
        self.assertEqual(tried(self.house, deed), (3, 2))
        self.assertEqual(all_of(self.house), self.before)

    def test_what_a_promise_would_cost(self):
        house = row_house()
        days = [tried(house, lambda desk: raised(desk.accept, "3", "a", 3, days=days)) is None for days in range(3)]
        self.assertEqual((days, len(house)), ([False, True, True], 0))
        self.assertIsInstance(house, House)


if __name__ == "__main__":
    unittest.main()
