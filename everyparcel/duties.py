"""What the goods in parcels cost at a border, and whether they pass it (points 40 and 41)."""

from everyparcel.errors import Invalid
from everyparcel.goods import origin
from everyparcel.tariffs import BARRED
from everyparcel.timetable import DAY


def share_out(total, weights):
    """The total in whole shares, in proportion to the weights."""
    if total < 0 or min(weights, default=0) < 0:
        raise Invalid("weights")
    whole = sum(weights)
    if whole == 0:
        return [total if at == 0 else 0 for at in range(len(weights))]
    shares = [total * weight // whole for weight in weights]
    order = sorted([(-(total * weight % whole), at) for at, weight in enumerate(weights)])
    for _, at in order[:total - sum(shares)]:
        shares[at] += 1
    return shares


def _consignments(parcels):
    """The lists of the parcels that belong together, each in ascending order of the tickets."""
    found = {}
    for parcel in sorted(parcels, key=lambda one: one.ticket):
        key = (parcel.sender, parcel.receiver, parcel.taken // DAY)
        found.setdefault(key, []).append(parcel)
    return list(found.values())


def _class_worths(parcel, share):
    """The worths of the classes of goods in the parcel, by heading and origin."""
    found = {}
    for good in parcel.goods:
        key = (good.heading, origin(good, share))
        found[key] = found.get(key, 0) + good.worth
    return found


def _class_duty(tariff, heading, land, worth):
    """The duty of a class of goods, to the nearest cent."""
    rate = tariff.rate(heading, land)
    if rate == BARRED:
        return 0
    return (worth * rate + 500) // 1000


def _shares(tariff, parcels):
    """The duties of the parcels of one consignment, in their order."""
    found = [0 for parcel in parcels]
    if sum([parcel.worth for parcel in parcels]) <= tariff.free:
        return found
    worths = [_class_worths(parcel, tariff.share) for parcel in parcels]
    classes = {key: True for classed in worths for key in classed}
    for heading, land in classes:
        weights = [classed.get((heading, land), 0) for classed in worths]
        shares = share_out(_class_duty(tariff, heading, land, sum(weights)), weights)
        found = [duty + share for duty, share in zip(found, shares)]
    return found


def duties(tariff, parcels):
    """The duty in cents that the land of the tariff takes for each of the parcels, by ascending tickets."""
    found = {}
    for consignment in _consignments(parcels):
        for parcel, duty in zip(consignment, _shares(tariff, consignment)):
            found[parcel.ticket] = duty
    return {ticket: found[ticket] for ticket in sorted(found)}


def clears(tariffs, land, parcel):
    """Whether the land has no tariff or lets the goods of the parcel in."""
    return land not in tariffs or tariffs[land].admits(parcel.goods)
