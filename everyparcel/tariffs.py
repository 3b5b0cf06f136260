"""What a land lets in, and at which rate (point 38)."""

from everyparcel.errors import Invalid
from everyparcel.goods import origin_paper
from everyparcel.network import is_name
from everyparcel.spelling import DIGITS, LETTERS
from everyparcel.tables import by_length, is_address

ANY = ""
BARRED = None


def _is_row(prefix, land, rate):
    """Whether the parts of a row are right, as far as other rows do not count."""
    return is_address(prefix) and (land == ANY or is_name(land)) and (rate == BARRED or rate >= 0)


def _free_land(lands):
    """The least name, by length and then by string, that is none of the lands."""
    names = list(LETTERS)
    while all([name in lands for name in names]):
        names = [name + sign for name in names for sign in DIGITS + LETTERS]
    return [name for name in names if name not in lands][0]


class Tariff:
    """The rates of a land."""

    def __init__(self, land, rows, *, free=0, share=50):
        self.land = land
        self.free = free
        self.share = share
        if not is_name(land) or free < 0 or not 0 <= share <= 100:
            raise Invalid("tariff")
        rates = {}
        for prefix, origin, rate in rows:
            if not _is_row(prefix, origin, rate) or (prefix, origin) in rates:
                raise Invalid("tariff")
            rates[(prefix, origin)] = rate
        self._rates = {key: rates[key] for key in sorted(rates)}

    @property
    def rows(self):
        """The rows in ascending order of the prefix and the origin."""
        return tuple([(prefix, land, rate) for (prefix, land), rate in self._rates.items()])

    def rate(self, heading, origin):
        """The rate of goods of that heading and origin: in thousandths, or BARRED."""
        for end in range(len(heading), 0, -1):
            for land in (origin, ANY):
                if (heading[:end], land) in self._rates:
                    return self._rates[(heading[:end], land)]
        return 0

    def admits(self, goods):
        """Whether none of the goods is barred."""
        return BARRED not in [self._rate_of(good) for good in goods]

    def _rate_of(self, good):
        """The rate of the good by its own heading and origin."""
        # The origin is read off the certificate, since the word names a parameter of this class.
        return self.rate(good.heading, origin_paper(good, self.share)[1])

    def parting(self, other):
        """The least heading and origin for which the rates differ, or None."""
        rows = self.rows + other.rows
        lands = {land: True for prefix, land, rate in rows if land != ANY}
        lands[_free_land(lands)] = True
        # A heading that is no prefix of a row has the rates that it has without its last digit.
        for heading in by_length([prefix for prefix, land, rate in rows]):
            for land in sorted(lands):
                if self.rate(heading, land) != other.rate(heading, land):
                    return (heading, land)
        return None
