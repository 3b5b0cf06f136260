"""How runs and books agree (points 58 and 59)."""

from everyparcel.books import Book
from everyparcel.records import WHERES, happened, record_house


def _is_sure(network, heard, event):
    """Whether the event is a landing that is surely known, if the houses are heard up to these ticks."""
    tick, kind, _, where = event
    if kind != "landed":
        return False
    site = network.site(where)
    return site.lag is not None and site.house in heard and tick <= heard[site.house] - site.lag


def misfits(world, run, book):
    """The records for which the run does not fit the book."""
    heard = book.heard
    wrong = [record for record in book.valid if not happened(world, run, record)]
    missing = [event for event in run.events if _is_sure(world.network, heard, event) and event not in book]
    return wrong + missing


def fits(world, run, book):
    """Whether the run fits the book."""
    return misfits(world, run, book) == []


def truth(world, run, now, *, failed=(), behind=None):
    """The book that honest houses have at the tick `now`."""
    network = world.network
    delays = {} if behind is None else behind
    heard = {site.house: now - delays.get(site.house, 0) for site in network.sites}
    heard = {house: tick for house, tick in heard.items() if tick >= 0}
    records = []
    for event in run.events:
        # Events of other kinds are never scanned.
        house = record_house(network, event) if event[1] in WHERES else None
        if house in heard and event[0] <= heard[house]:
            if event not in failed or _is_sure(network, heard, event):
                records.append(event)
    return Book(heard, records)
