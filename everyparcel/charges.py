"""Charges, which make postings of events (points 79 to 81)."""

from everyparcel.duties import duties
from everyparcel.errors import Invalid


def _check_cents(amounts):
    if not all([cents >= 0 for cents in amounts]):
        raise Invalid("charge")


def _sender(parcel):
    return ("sender", parcel.sender)


def _house(world, parcel):
    return ("house", world.network.site(parcel.start).house)


def _posted(event, debtor, creditor, cents, word, ticket):
    """The list of the posting, which is empty if there is less than a cent to owe."""
    return [(event[0], debtor, creditor, cents, word, ticket)] if cents >= 1 else []


def _is_over(limit, tick):
    """Whether there is a last tick for something, and the tick is greater."""
    return limit is not None and tick > limit


class Charge:
    """The base class, which charges nothing."""

    def __init__(self, word):
        self.word = word

    def postings(self, world, event, tickets):
        """The postings of one event."""
        return []


class Postage(Charge):
    """What a sender pays for a parcel that is taken in."""

    def __init__(self, base, per_weight):
        super().__init__("postage")
        _check_cents([base, per_weight])
        self._base = base
        self._per_weight = per_weight

    def fee(self, parcel):
        """The cents for the parcel."""
        return self._base + self._per_weight * parcel.weight

    def postings(self, world, event, tickets):
        """The postings of one event."""
        if event[1] != "taken":
            return []
        found = []
        for ticket in tickets:
            parcel = world.parcel(ticket)
            found.extend(_posted(event, _sender(parcel), _house(world, parcel), self.fee(parcel), self.word, ticket))
        return found


class Express(Postage):
    """Postage that is greater where fewer days are promised."""

    def __init__(self, base, per_weight, express):
        super().__init__(base, per_weight)
        _check_cents([express])
        self._express = express

    def fee(self, parcel):
        """The cents for the parcel."""
        plain = super().fee(parcel)
        return plain if parcel.days is None else plain + self._express // (parcel.days + 1)

    def postings(self, world, event, tickets):
        """The postings of one event."""
        return super().postings(world, event, tickets)


class Refund(Postage):
    """What a sender gets back for a parcel that is delivered too late."""

    def __init__(self, base, per_weight):
        super().__init__(base, per_weight)
        self.word = "refund"

    def fee(self, parcel):
        """The cents for the parcel."""
        return super().fee(parcel)

    def postings(self, world, event, tickets):
        """The postings of one event."""
        if event[1] != "out":
            return []
        found = []
        for ticket in tickets:
            parcel = world.parcel(ticket)
            cents = self.fee(parcel) if _is_over(parcel.due, event[0]) else 0
            found.extend(_posted(event, _house(world, parcel), _sender(parcel), cents, self.word, ticket))
        return found


class Toll(Charge):
    """What the house of a trip gets for the parcels of other houses that it carries."""

    def __init__(self):
        super().__init__("toll")

    def postings(self, world, event, tickets):
        """The postings of one event."""
        if event[1] != "loaded":
            return []
        trip = world.network.trip(event[3])
        creditor = ("house", world.network.house_of("trip", trip.name))
        found = []
        for ticket in tickets:
            debtor = _house(world, world.parcel(ticket))
            cents = 0 if debtor == creditor else trip.toll
            found.extend(_posted(event, debtor, creditor, cents, self.word, ticket))
        return found


class Duty(Charge):
    """What a land takes for a parcel that is cleared."""

    def __init__(self):
        super().__init__("duty")

    def postings(self, world, event, tickets):
        """The postings of one event."""
        if event[1] != "cleared":
            return []
        land = world.network.site(event[3]).land
        if land not in world.tariffs:
            return []
        cents = duties(world.tariffs[land], world.parcels)
        found = []
        for ticket in tickets:
            debtor = _sender(world.parcel(ticket))
            found.extend(_posted(event, debtor, ("land", land), cents[ticket], self.word, ticket))
        return found


class Cover(Charge):
    """What a house pays for a parcel that is claimed, and gets back if it is delivered after all."""

    def __init__(self, limit):
        super().__init__("cover")
        _check_cents([limit])
        self._limit = limit

    def postings(self, world, event, tickets):
        """The postings of one event."""
        if event[1] not in ("claimed", "out"):
            return []
        found = []
        for ticket in tickets:
            parcel = world.parcel(ticket)
            house, sender = _house(world, parcel), _sender(parcel)
            cents = min(parcel.worth, self._limit)
            if event[1] == "claimed":
                found.extend(_posted(event, house, sender, cents, self.word, ticket))
            elif _is_over(world.claim_tick(ticket), event[0]):
                found.extend(_posted(event, sender, house, cents, "return", ticket))
        return found


class Prices:
    """Any number of charges with different words."""

    def __init__(self, *charges):
        self._charges = charges
        words = self.words()
        if len(set(words)) < len(words):
            raise Invalid("prices")

    @staticmethod
    def usual():
        """The prices that a house has if it is given no other ones."""
        return Prices(Postage(400, 3), Toll(), Duty(), Refund(400, 3), Cover(50000))

    def postings(self, world, event, tickets):
        """The postings of all charges for one event."""
        found = []
        for charge in self._charges:
            found.extend(charge.postings(world, event, tickets))
        return found

    def words(self):
        """The words of the charges."""
        return [charge.word for charge in self._charges]
