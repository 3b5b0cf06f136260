"""Goods in parcels (point 35)."""

from everyparcel.errors import Invalid
from everyparcel.network import is_name
from everyparcel.tables import is_address


class Good:
    """A thing in a parcel, and the goods of which it was made."""

    def __init__(self, heading, worth, land, parts=()):
        self.heading = heading
        self.land = land
        self.parts = tuple(parts)
        self.chapter = heading[:2]
        self._worth = worth
        if not is_address(heading) or worth < 0 or not is_name(land):
            raise Invalid("good")
        if sum([part.worth for part in self.parts]) > worth:
            raise Invalid("good")

    @property
    def worth(self):
        """The worth in cents."""
        return self._worth
