"""Points 36 and 37: the origin of goods and its certificates."""

import copy
import random
import unittest

from everyparcel.goods import Good, check_origin, origin, origin_paper


def made(heading, worth, land):
    return Good(heading, worth, land)


def plain_origin(good, share):
    """The rule and the land by the words of point 36."""
    origins = [plain_origin(part, share)[1] for part in good.parts]
    foreign = [number for number, land in enumerate(origins) if land != good.land]
    worths = {number: good.parts[number].worth for number in foreign}
    if not good.parts:
        return ("made", good.land)
    if not foreign:
        return ("wholly", good.land)
    if good.chapter not in [good.parts[number].chapter for number in foreign]:
        return ("changed", good.land)
    if 100 * sum(worths.values()) <= share * good.worth:
        return ("value", good.land)
    return ("taken", origins[min(foreign, key=lambda number: (-worths[number], number))])


def random_good(chance, levels):
    count = chance.randint(0, 3) if levels else 0
    parts = [random_good(chance, levels - 1) for _ in range(count)]
    heading = chance.choice(["1", "12", "123", "1299", "2", "21", "12345678"])
    worth = sum(part.worth for part in parts) + chance.choice([0, 0, 1, 5])
    return Good(heading, worth, chance.choice(["li", "no", "se"]), parts)


def some_goods(many, levels):
    chance = random.Random(36)
    return [random_good(chance, levels) for _ in range(many)]


def papers_in(paper):
    """All certificates in a certificate, itself included, as the paths to them."""
    found = [()]
    for number, part in enumerate(paper[2]):
        found.extend((number,) + path for path in papers_in(part))
    return found


def replaced(paper, path, change):
    """The certificate in which the one at the path is changed."""
    if not path:
        return change(paper)
    rule, land, papers = paper
    papers = list(papers)
    papers[path[0]] = replaced(papers[path[0]], path[1:], change)
    return (rule, land, papers)


class OriginTest(unittest.TestCase):
    def test_made(self):
        good = made("8703", 10, "li")
        for share in [0, 50, 100]:
            self.assertEqual(origin(good, share), "li")
            self.assertEqual(origin_paper(good, share), ("made", "li", []))

    def test_wholly(self):
        good = Good("8703", 10, "li", [made("8703", 5, "li"), made("8703", 5, "li")])
        for share in [0, 50, 100]:
            self.assertEqual(origin_paper(good, share), ("wholly", "li", [("made", "li", [])] * 2))

    def test_changed(self):
        good = Good("8703", 10, "li", [made("88", 6, "no"), made("8701", 4, "li")])
        for share in [0, 50, 100]:
            self.assertEqual(origin_paper(good, share), ("changed", "li", [("made", "no", []), ("made", "li", [])]))

    def test_each_foreign_part_must_have_another_chapter(self):
        good = Good("8703", 10, "li", [made("88", 4, "no"), made("8799", 6, "no")])
        self.assertEqual(origin_paper(good)[:2], ("taken", "no"))
        self.assertEqual(origin(Good("8703", 10, "li", [made("88", 4, "no"), made("89", 6, "no")])), "li")

    def test_a_chapter_of_one_digit(self):
        self.assertEqual(origin_paper(Good("8", 10, "li", [made("8", 9, "no")]))[:2], ("taken", "no"))
        self.assertEqual(origin_paper(Good("8", 10, "li", [made("80", 9, "no")]))[:2], ("changed", "li"))
        self.assertEqual(origin_paper(Good("80", 10, "li", [made("8099", 9, "no")]))[:2], ("taken", "no"))

    def test_value_just_applies_and_one_cent_beside(self):
        for worth, rule in [(499, "value"), (500, "value"), (501, "taken")]:
            good = Good("8703", 1000, "li", [made("8708", worth, "no")])
            self.assertEqual(origin_paper(good)[0], rule)
            self.assertEqual(origin(good), "li" if rule == "value" else "no")
        for share, worth, land in [(33, 330, "li"), (33, 331, "no"), (1, 10, "li"), (1, 11, "no"), (99, 991, "no")]:
            self.assertEqual(origin(Good("8703", 1000, "li", [made("8708", worth, "no")]), share), land)

    def test_value_counts_the_foreign_parts_together(self):
        parts = [made("8708", 300, "no"), made("88", 201, "se"), made("8708", 400, "li")]
        self.assertEqual(origin_paper(Good("8703", 1001, "li", parts))[:2], ("taken", "no"))
        self.assertEqual(origin_paper(Good("8703", 1002, "li", parts))[:2], ("value", "li"))

    def test_the_shares_0_and_100(self):
        free = Good("8703", 1000, "li", [made("8708", 0, "no")])
        cheap = Good("8703", 1000, "li", [made("8708", 1, "no")])
        whole = Good("8703", 1000, "li", [made("8708", 1000, "no")])
        self.assertEqual([origin(free, share) for share in [0, 50, 100]], ["li", "li", "li"])
        self.assertEqual([origin(cheap, share) for share in [0, 50, 100]], ["no", "li", "li"])
        self.assertEqual([origin(whole, share) for share in [0, 50, 100]], ["no", "no", "li"])

    def test_several_foreign_parts_of_the_same_greatest_worth(self):
        parts = [made("8708", 200, "li"), made("8708", 100, "fi"), made("8708", 150, "se"), made("8708", 150, "no")]
        self.assertEqual(origin_paper(Good("8703", 600, "li", parts))[:2], ("taken", "se"))
        self.assertEqual(origin_paper(Good("8703", 600, "li", parts[::-1]))[:2], ("taken", "no"))

    def test_a_home_part_of_greater_worth_does_not_count(self):
        parts = [made("8708", 499, "li"), made("8708", 501, "no")]
        self.assertEqual(origin(Good("8703", 1000, "li", parts)), "no")
        parts = [made("8708", 500, "li"), made("8708", 251, "no"), made("8708", 250, "se")]
        self.assertEqual(origin(Good("8703", 1001, "li", parts)), "no")

    def test_each_rule_below_each_level(self):
        rules = {
            "made": made("8703", 100, "no"),
            "wholly": Good("8703", 100, "no", [made("1", 1, "no")]),
            "changed": Good("8703", 100, "no", [made("1", 100, "se")]),
            "value": Good("8703", 100, "no", [made("8701", 50, "se")]),
            "taken": Good("8703", 100, "se", [made("8701", 51, "no")]),
        }
        for rule, good in rules.items():
            paper = origin_paper(good)
            self.assertEqual(paper[:2], (rule, "no"))
            for _ in range(8):
                # The land of the outer good is another one, and so each level takes the land of its part.
                good = Good("8703", 100, "li", [good])
                paper = ("taken", "no", [paper])
                self.assertEqual(origin_paper(good), paper)
                self.assertEqual(origin(good), "no")
                self.assertTrue(check_origin(good, 50, paper))

    def test_the_origin_of_a_part_counts_and_not_its_land(self):
        part = Good("8708", 600, "li", [made("8701", 600, "no")])
        self.assertEqual(origin_paper(Good("8703", 1000, "li", [part])),
                         ("taken", "no", [("taken", "no", [("made", "no", [])])]))
        part = Good("8708", 600, "no", [made("8701", 600, "li")])
        self.assertEqual(origin_paper(Good("8703", 1000, "li", [part]))[:2], ("wholly", "li"))

    def test_the_share_counts_at_each_level(self):
        good = Good("8703", 100, "se", [Good("8703", 80, "li", [made("8703", 40, "no")])])
        self.assertEqual([origin(good, share) for share in [0, 49, 50, 79, 80]], ["no", "no", "li", "li", "se"])

    def test_the_share_is_50_by_default(self):
        for good in some_goods(60, 3):
            self.assertEqual(origin(good), origin(good, 50))
            self.assertEqual(origin_paper(good), origin_paper(good, 50))

    def test_against_the_words(self):
        for good in some_goods(400, 3):
            for share in [0, 50, 100]:
                self.assertEqual(origin_paper(good, share)[:2], plain_origin(good, share))
                self.assertEqual(origin(good, share), plain_origin(good, share)[1])


class CertificateTest(unittest.TestCase):
    def setUp(self):
        self.good = Good("8703", 1000, "li", [made("8708", 300, "no"), Good("88", 90, "se", [made("9", 9, "fi")])])
        self.paper = ("value", "li", [("made", "no", []), ("changed", "se", [("made", "fi", [])])])

    def test_the_paper(self):
        self.assertEqual(origin_paper(self.good), self.paper)
        self.assertTrue(check_origin(self.good, 50, self.paper))

    def test_another_share(self):
        self.assertFalse(check_origin(self.good, 38, self.paper))
        self.assertTrue(check_origin(self.good, 39, self.paper))

    def test_a_wrong_word(self):
        for path in papers_in(self.paper):
            for word in ["made", "wholly", "changed", "value", "taken", "", "other"]:
                paper = replaced(self.paper, path, lambda one: (word, one[1], one[2]))
                self.assertEqual(check_origin(self.good, 50, paper), paper == self.paper)

    def test_a_wrong_land(self):
        for path in papers_in(self.paper):
            for land in ["li", "no", "se", "fi", "xx", ""]:
                paper = replaced(self.paper, path, lambda one: (one[0], land, one[2]))
                self.assertEqual(check_origin(self.good, 50, paper), paper == self.paper)

    def test_a_certificate_too_few_or_too_many(self):
        for path in papers_in(self.paper):
            more = replaced(self.paper, path, lambda one: (one[0], one[1], one[2] + [("made", "no", [])]))
            self.assertFalse(check_origin(self.good, 50, more))
        for path in [(), (1,)]:
            less = replaced(self.paper, path, lambda one: (one[0], one[1], one[2][:-1]))
            self.assertFalse(check_origin(self.good, 50, less))
            none = replaced(self.paper, path, lambda one: (one[0], one[1], []))
            self.assertFalse(check_origin(self.good, 50, none))

    def test_exchanged_certificates(self):
        paper = replaced(self.paper, (), lambda one: (one[0], one[1], one[2][::-1]))
        self.assertFalse(check_origin(self.good, 50, paper))
        good = Good("8703", 9, "li", [made("1", 1, "no"), made("1", 1, "se")])
        self.assertTrue(check_origin(good, 50, ("changed", "li", [("made", "no", []), ("made", "se", [])])))
        self.assertFalse(check_origin(good, 50, ("changed", "li", [("made", "se", []), ("made", "no", [])])))

    def test_what_would_follow_from_another_land_of_a_part(self):
        good = Good("8703", 100, "li", [made("8708", 60, "no")])
        self.assertFalse(check_origin(good, 50, ("wholly", "li", [("made", "li", [])])))
        self.assertFalse(check_origin(good, 50, ("taken", "se", [("made", "se", [])])))
        self.assertTrue(check_origin(good, 50, ("taken", "no", [("made", "no", [])])))

    def test_only_its_own_certificate(self):
        goods = some_goods(40, 2)
        for good in goods:
            paper = origin_paper(good, 50)
            self.assertTrue(check_origin(good, 50, paper))
            for other in goods:
                self.assertEqual(check_origin(good, 50, origin_paper(other)), origin_paper(other) == paper)

    def test_nothing_is_changed(self):
        before = copy.deepcopy(self.paper)
        check_origin(self.good, 50, self.paper)
        self.assertEqual(self.paper, before)
        origin_paper(self.good)[2].clear()
        self.assertEqual(origin_paper(self.good), before)


if __name__ == "__main__":
    unittest.main()
