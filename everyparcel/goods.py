"""Goods in parcels, and where they come from (points 35 to 37)."""

from everyparcel.errors import Invalid
from everyparcel.network import is_name
from everyparcel.tables import is_address


class Good:
    """A thing in a parcel, and the goods of which it was made."""

    def __init__(self, heading, worth, land, parts=()):
        self.heading = heading
        self.land = land
        self.parts = tuple(parts)
        self.chapter = heading[:2]
        self._worth = worth
        if not is_address(heading) or worth < 0 or not is_name(land):
            raise Invalid("good")
        if sum([part.worth for part in self.parts]) > worth:
            raise Invalid("good")

    @property
    def worth(self):
        """The worth in cents."""
        return self._worth


def _ruling(good, share, lands):
    """The rule that applies to the good, and its origin, if its parts come from these lands."""
    foreign = [(part, land) for part, land in zip(good.parts, lands) if land != good.land]
    if not good.parts:
        return ("made", good.land)
    if not foreign:
        return ("wholly", good.land)
    if all([part.chapter != good.chapter for part, land in foreign]):
        return ("changed", good.land)
    if sum([part.worth for part, land in foreign]) * 100 <= share * good.worth:
        return ("value", good.land)
    greatest = max([part.worth for part, land in foreign])
    taken = [land for part, land in foreign if part.worth == greatest]
    return ("taken", taken[0])


def origin(good, share=50):
    """The land from which the good comes."""
    return origin_paper(good, share)[1]


def origin_paper(good, share=50):
    """The certificate of origin of the good."""
    papers = [origin_paper(part, share) for part in good.parts]
    rule, land = _ruling(good, share, [paper[1] for paper in papers])
    return (rule, land, papers)


def check_origin(good, share, paper):
    """Whether the paper is the certificate of origin of the good."""
    rule, land, papers = paper
    if len(papers) != len(good.parts):
        return False
    if not all([check_origin(part, share, one) for part, one in zip(good.parts, papers)]):
        return False
    return (rule, land) == _ruling(good, share, [one[1] for one in papers])
