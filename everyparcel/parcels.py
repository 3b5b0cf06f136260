"""Parcels (point 39)."""

from everyparcel.errors import Invalid
from everyparcel.network import is_name
from everyparcel.tables import is_address
from everyparcel.timetable import DAY


class Parcel:
    """A parcel as it is taken in."""

    def __init__(self, ticket, address, start, taken, *, weight=1, days=None, sender="sender", receiver="receiver",
                 goods=()):
        self.ticket = ticket
        self.address = address
        self.start = start
        self.taken = taken
        self.weight = weight
        self.days = days
        self.sender = sender
        self.receiver = receiver
        self.goods = tuple(goods)
        if not is_address(address) or not all([is_name(name) for name in (start, sender, receiver)]):
            raise Invalid("parcel")
        if ticket < 1 or taken < 0 or weight < 1 or (days is not None and days < 0):
            raise Invalid("parcel")

    @property
    def worth(self):
        """The sum of the worths of the goods."""
        return sum([good.worth for good in self.goods])

    @property
    def due(self):
        """The last tick of the promised day, or None."""
        if self.days is None:
            return None
        return DAY * (self.taken // DAY + self.days) + DAY - 1
