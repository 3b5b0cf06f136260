"""Points 84 to 86: the least and the greatest balance, and the bars that show them."""

import random
import unittest

from everyparcel.books import Book
from everyparcel.charges import Postage, Prices, Toll
from everyparcel.layers import shows
from everyparcel.ledgers import balance, ledger
from everyparcel.network import Site, Trip
from everyparcel.ranges import balance_range, check_bars, range_answer
from everyparcel.runs import run
from everyparcel.standings import first_standing, steps
from tests.brute import fitting, made_book, plain_balance, plain_layers, plain_postings, small_worlds
from tests.helpers import raised
from tests.test_layers import growing_world, lone_world
from tests.test_runs import too_many
from tests.test_ticks import parcels_of, world_of

H, K, SENDER = ("house", "h"), ("house", "k"), ("sender", "sender")
USUAL = Prices.usual()
CONTRADICTION = ("Contradiction", {})


def toll_world():
    """Two parcels of the house h, each of which may be mislaid ahead of a trip of the house k with a toll of 7."""
    trips = [Trip("t", "a", "b", 1, 4), Trip("u", "b", "c", 6, 9, toll=7)]
    return world_of(parcels_of(1, 2), trips, sites=[Site("b", "k", "x", "2")], slips=2)


class RangeTest(unittest.TestCase):
    def test_the_least_and_the_greatest(self):
        world = toll_world()
        for account, told in [(K, (0, 14)), (H, (806 - 14, 806)), (SENDER, (-806, -806)), (("house", "w"), (0, 0))]:
            self.assertEqual(balance_range(world, Book(), USUAL, account), told)
        for records, told in [([(6, "loaded", 1, "u")], (7, 14)), ([(4, "landed", 1, "b")], (0, 14)),
                              ([(6, "loaded", 1, "u"), (6, "loaded", 2, "u")], (14, 14)),
                              ([(6, "aboard", 2, "u")], (7, 14))]:
            self.assertEqual(balance_range(world, Book({}, records), USUAL, K), told)
        self.assertEqual(balance_range(world, Book(), Prices(), K), (0, 0))
        self.assertEqual(balance_range(world, Book(), Prices(Toll()), H), (-14, 0))

    def test_the_first_courses_that_reach_them(self):
        world = toll_world()
        least, greatest, low, high, _ = range_answer(world, Book(), USUAL, K)
        self.assertEqual((least, greatest), (0, 14))
        self.assertEqual((low, high), (((), (("u", 1), ("u", 2))), ((), ())))
        self.assertEqual(range_answer(world, Book({}, [(6, "loaded", 2, "u")]), USUAL, K)[:4],
                         (7, 14, ((), (("u", 1),)), ((), ())))
        self.assertEqual(range_answer(world, Book(), USUAL, H)[2:4], (((), ()), ((), (("u", 1), ("u", 2)))))

    def test_an_account_that_does_not_occur(self):
        least, greatest, low, high, bars = range_answer(toll_world(), Book(), USUAL, ("land", "h"))
        self.assertEqual((least, greatest, low, high), (0, 0, ((), ()), ((), ())))
        self.assertIs(check_bars(toll_world(), Book(), USUAL, ("land", "h"), 0, 0, bars), True)

    def test_a_world_without_ticks(self):
        world = lone_world()
        first = first_standing(world)
        self.assertEqual(range_answer(world, Book(), USUAL, H), (0, 0, ((), ()), ((), ()), [{first: (0, 0)}]))
        for bars, told in [([{first: (0, 0)}], True), ([{first: (-3, 2)}], False), ([{}], False), ([], False),
                           ([{first: None}], False), ([{first: (1, 2)}], False), ([{first: (0, 0)}, {}], False)]:
            self.assertIs(check_bars(world, Book(), USUAL, H, 0, 0, bars), told)
        self.assertIs(check_bars(world, Book(), USUAL, H, -3, 2, [{first: (-3, 2)}]), True)

    def test_errors(self):
        world, false = growing_world(), Book({}, [(99, "out", 1, "b")])
        for call in [balance_range, range_answer]:
            self.assertEqual(raised(call, world, Book(), USUAL, H, most=7), too_many(7, 5))
            self.assertIsNone(raised(call, world, Book(), USUAL, H, most=8))
            self.assertEqual(raised(call, world, false, USUAL, H), CONTRADICTION)
            self.assertEqual(raised(call, world, false, USUAL, H, most=7), too_many(7, 5))
            for many, told in [(8, None), (9, too_many(500, 1))]:
                large = world_of(parcels_of(*range(1, many + 1)), [Trip("t", "a", "b", 1, 99, room=99)], slips=99)
                self.assertEqual(raised(call, large, Book(), USUAL, H), told)

    def test_too_many_courses_to_go_through(self):
        # Each of 30 parcels may be too late for the one trip that takes it on at a toll.
        trips, parcels = [], []
        for k in range(30):
            trips.append(Trip(f"t{k}", "a", "b", 4 * k, 4 * k + 1, late=1))
            trips.append(Trip(f"u{k}", "b", "c", 4 * k + 1, 4 * k + 3, toll=7))
            parcels += parcels_of(k + 1, taken=4 * k)
        world = world_of(parcels, trips, sites=[Site("b", "k", "x", "2", rounds=[4 * k + 3 for k in range(30)])],
                         lanes={"a": [("3", "b")], "b": [("3", "c")]})
        book = Book({}, [(6, "landed", 2, "b"), (9, "aboard", 3, "u2")])
        self.assertEqual(balance_range(world, book, Prices(Toll()), K, most=9), (7 * 29, 7 * 30))


class BarsTest(unittest.TestCase):
    def setUp(self):
        self.world = toll_world()
        self.bars = range_answer(self.world, Book(), USUAL, K)[4]

    def check(self, bars, told, least=0, greatest=14, book=None):
        self.assertIs(check_bars(self.world, Book() if book is None else book, USUAL, K, least, greatest, bars), told)

    def changed(self, number, standing, value):
        bars = [dict(one) for one in self.bars]
        bars[number][standing] = value
        return bars

    def test_the_bars_of_the_answer(self):
        self.check(self.bars, True)
        self.assertEqual([len(layer) for layer in self.bars], [1, 1, 4, 4, 9, 9])
        self.assertIs(check_bars(self.world, Book(), USUAL, H, 792, 806, self.bars), False)

    def test_least_and_greatest_one_off(self):
        self.check(self.bars, False, least=1)
        self.check(self.bars, False, greatest=13)
        self.check(self.bars, True, least=-1, greatest=15)

    def test_wider_and_narrower_pairs(self):
        for number, layer in enumerate(self.bars):
            self.check(self.widened(number), True, -1, 15)
            for standing, (low, high) in layer.items():
                self.check(self.changed(number, standing, (low + 1, high)), False)
                self.check(self.changed(number, standing, (low, high - 1)), False)
        # All that is loaded pays at once, so the pair behind it may be wider by what the one before it leaves.
        both = [standing for standing in self.bars[4] if standing[1][0] == standing[1][1] == ("on", "u")][0]
        self.check(self.changed(4, both, (-14, 0)), True)
        self.check(self.changed(4, both, (-15, 0)), False)
        self.check(self.changed(4, both, (0, 1)), False)

    def widened(self, number):
        """The bars with wider pairs up to the layer of that number."""
        wide = [{standing: (low - 1, high + 1) for standing, (low, high) in layer.items()} for layer in self.bars]
        return wide[:number + 1] + self.bars[number + 1:]

    def test_pairs_that_are_wider_than_needed(self):
        for number in range(len(self.bars)):
            self.check(self.widened(number), False)
            self.check(self.widened(number), False, -1, 14)
            self.check(self.widened(number), False, 0, 15)

    def test_a_key_left_out_at_each_layer(self):
        for number, layer in enumerate(self.bars):
            for standing in layer:
                bars = [dict(one) for one in self.bars]
                del bars[number][standing]
                self.check(bars, False)

    def test_none_for_a_standing_from_which_a_course_goes_on(self):
        for number, layer in enumerate(self.bars):
            for standing in layer:
                self.check(self.changed(number, standing, None), False)

    def test_none_for_a_standing_from_which_none_goes_on(self):
        # Mislaid at the second trip, so that the first one has not lost it: known only at the end.
        book = Book({}, [(9, "landed", 1, "c"), (9, "landed", 2, "c")])
        least, greatest, _, _, bars = range_answer(self.world, book, USUAL, K)
        self.assertEqual((least, greatest), (14, 14))
        nones = []
        for number, layer in enumerate(bars):
            nones += [(number, standing) for standing, pair in layer.items() if pair is None]
        self.assertEqual(sorted({number for number, _ in nones}), [2, 3, 4])
        self.check(bars, True, 14, 14, book)
        for number, standing in nones:
            less = [dict(layer) for layer in bars]
            del less[number][standing]
            self.check(less, False, 14, 14, book)
        # A pair may stand there, too, if the ones before it hold it: no step goes on that it would have to hold.
        number, standing = nones[-1]
        wide = [dict(layer) for layer in bars]
        wide[number][standing] = (14 - self.paid(standing), 14 - self.paid(standing))
        before = [(other, one) for other, one in nones if other < number]
        for other, one in before:
            wide[other][one] = (14, 14)
        self.check(wide, True, 14, 14, book)

    def paid(self, standing):
        """What the parcels on the second trip have paid."""
        return 7 * standing[1].count(("on", "u"))

    def test_the_number_of_the_dicts(self):
        self.check(self.bars[:-1], False)
        self.check(self.bars[1:], False)
        self.check(self.bars + [{}], False)
        self.check([{}] + self.bars, False)
        self.check([], False)
        self.check([{} for _ in self.bars], False)

    def test_a_book_that_no_course_fits(self):
        book = Book({}, [(9, "out", 1, "c")])
        self.assertEqual(raised(range_answer, self.world, book, USUAL, K), CONTRADICTION)
        bars = [{standing: None for standing in layer} for layer in self.bars[:-1]] + [{}]
        self.check(bars, True, 5, 3, book)
        self.check(bars, False)
        self.check(self.bars[:-1] + [{}], True, 0, 14, book)
        first = Book({}, [(2, "taken", 1, "a")])
        self.check([{} for _ in self.bars], True, 0, 0, first)

    def test_beyond_the_limit_of_layers(self):
        world = growing_world(10)
        self.assertEqual(raised(range_answer, world, Book(), USUAL, H), too_many(500, 17))
        bars = range_answer(world, Book(), USUAL, H, most=5000)[4]
        self.assertEqual(max(len(layer) for layer in bars), 1024)
        self.assertIs(check_bars(world, Book(), USUAL, H, 4030, 4030, bars), True)
        self.assertIs(check_bars(world, Book(), USUAL, H, 4031, 4031, bars), False)

    def test_what_is_passed_stays_and_what_is_returned_is_new(self):
        bars = [dict(layer) for layer in self.bars]
        self.check(bars, True)
        self.assertEqual(bars, self.bars)
        range_answer(self.world, Book(), USUAL, K)[4][0].clear()
        self.assertEqual(range_answer(self.world, Book(), USUAL, K)[4], self.bars)


class SmallWorldsTest(unittest.TestCase):
    def accounts_of(self, all_postings):
        accounts = {account for postings in all_postings for posting in postings for account in posting[1:3]}
        return sorted(accounts) + [("house", "w")]

    def test_ranges_of_small_worlds(self):
        """Against the plain ledgers of all fitting courses."""
        chance = random.Random(84)
        wide = 0
        for world, branches in small_worlds(250, 84, least=3, rich=True):
            book = made_book(chance, world, branches)
            some = fitting(world, branches, book)
            if not some:
                self.assertEqual(raised(balance_range, world, book, USUAL, H), CONTRADICTION)
                continue
            all_postings = [plain_postings(world, branch) for branch in some]
            for account in self.accounts_of(all_postings):
                sums = [plain_balance(postings, account) for postings in all_postings]
                least, greatest, low, high, bars = range_answer(world, book, USUAL, account)
                self.assertEqual((least, greatest), (min(sums), max(sums)))
                self.assertEqual(balance_range(world, book, USUAL, account), (least, greatest))
                self.assertEqual(low, some[sums.index(least)].course())
                self.assertEqual(high, some[sums.index(greatest)].course())
                for course, cents in [(low, least), (high, greatest)]:
                    self.assertIs(shows(world, book, None, course), True)
                    self.assertEqual(balance(ledger(world, run(world, course), USUAL), account), cents)
                self.assertIs(check_bars(world, book, USUAL, account, least, greatest, bars), True)
                self.assertIs(check_bars(world, book, USUAL, account, least + 1, greatest, bars), False)
                self.assertIs(check_bars(world, book, USUAL, account, least, greatest - 1, bars), False)
                wide += least < greatest
        self.assertGreater(wide, 50)

    def test_bars_of_any_kind(self):
        """Bars that were changed by chance, against the words of point 85."""
        chance = random.Random(85)
        told = {True: 0, False: 0}
        for world, branches in small_worlds(120, 85, least=3, rich=True):
            book = made_book(chance, world, branches)
            if not fitting(world, branches, book):
                continue
            account = chance.choice([SENDER, H, K, ("sender", "ann"), ("house", "m")])
            least, greatest, _, _, bars = range_answer(world, book, USUAL, account)
            rows = plain_layers(world, branches, book)
            for _ in range(6):
                changed = self.changed(chance, bars, plain_layers(world, branches, Book()))
                low, high = least - chance.randint(0, 2), greatest + chance.randint(0, 2)
                found = self.holds(world, branches, book, account, (low, high), changed, rows)
                self.assertIs(check_bars(world, book, USUAL, account, low, high, changed), found)
                told[found] += 1
        self.assertGreater(min(told.values()), 40)

    def changed(self, chance, bars, wide):
        found = [dict(layer) for layer in bars]
        for _ in range(chance.randint(0, 2)):
            number = chance.randrange(len(found))
            standing = chance.choice(wide[number])
            pair = found[number].get(standing)
            deed = chance.randint(0, 3)
            if deed == 0:
                found[number].pop(standing, None)
            elif deed == 1 or pair is None:
                found[number][standing] = chance.choice([None, (0, 0), (-9, 9)])
            else:
                found[number][standing] = (pair[0] - chance.randint(0, 1), pair[1] + chance.randint(0, 1))
        return found

    def holds(self, world, branches, book, account, ends, bars, rows):
        """Point 85 word by word: the fitting steps are those that lead on in a world that starts at the standing."""
        first = first_standing(world)
        if rows[0] and (first not in bars[0] or (bars[0][first] is not None and
                                                 not (ends[0] <= bars[0][first][0] and bars[0][first][1] <= ends[1]))):
            return False
        for number, tick in enumerate(world.ticks, 1):
            for standing, pair in bars[number - 1].items():
                for events, after in steps(world, standing, tick):
                    if not self.passes(world, book, number, tick, events, after):
                        continue
                    if after not in bars[number]:
                        return False
                    rest = bars[number][after]
                    if rest is not None:
                        gain = self.gain(world, branches, account, number, standing, events)
                        if pair is None or not (pair[0] <= gain + rest[0] and gain + rest[1] <= pair[1]):
                            return False
        return all(pair is not None and pair[0] <= 0 <= pair[1] for pair in bars[-1].values())

    def passes(self, world, book, number, tick, events, after):
        """Whether the step fits and the new standing passes."""
        places = dict(zip(world.units, after[1]))
        for time, kind, unit, where in book.valid:
            if kind in ("seen", "aboard"):
                if len([one for one in world.ticks if one <= time]) == number:
                    while places[unit][0] == "in":
                        unit = places[unit][1]
                    if places[unit] != ("at" if kind == "seen" else "on", where):
                        return False
            elif time == tick and (time, kind, unit, where) not in events:
                return False
        for event in events:
            site = [site for site in world.network.sites if site.name == event[3]]
            if event[1] == "landed" and site[0].lag is not None and event not in book.valid:
                if event[0] <= book.heard.get(site[0].house, -99) - site[0].lag:
                    return False
        return True

    def gain(self, world, branches, account, number, standing, events):
        """What a course that makes the step has to pay at its tick."""
        before = standing if number > 1 else None
        for branch in branches:
            same = before is None or branch.standings[number - 2] == before
            if same and tuple(event for event in branch.events if event[0] == world.ticks[number - 1]) == events:
                postings = [one for one in plain_postings(world, branch) if one[0] == world.ticks[number - 1]]
                return plain_balance(postings, account)
        raise AssertionError("no course makes this step")


class PricesTest(unittest.TestCase):
    def test_other_prices(self):
        world = toll_world()
        prices = Prices(Toll(), Postage(0, 9))
        self.assertEqual(balance_range(world, Book(), prices, H), (18 - 14, 18))
        bars = range_answer(world, Book(), prices, H)[4]
        self.assertIs(check_bars(world, Book(), prices, H, 4, 18, bars), True)
        self.assertIs(check_bars(world, Book(), USUAL, H, 4, 18, bars), False)


if __name__ == "__main__":
    unittest.main()
