"""How runs and books agree (points 58 and 59)."""

from everyparcel.books import Book
from everyparcel.records import WHERES, happened, record_house


def sure_ticks(network, heard):
    """Up to which tick landings are surely known, by the sites with a sure scanner whose house is heard."""
    sure = [site for site in network.sites if site.lag is not None and site.house in heard]
    return {site.name: heard[site.house] - site.lag for site in sure}


def is_sure(sure, event):
    """Whether the event is a landing that is surely known, if those of each site are up to these ticks."""
    tick, kind, _, where = event
    return kind == "landed" and where in sure and tick <= sure[where]


def misfits(world, run, book):
    """The records for which the run does not fit the book."""
    sure = sure_ticks(world.network, book.heard)
    wrong = [record for record in book.valid if not happened(world, run, record)]
    missing = [event for event in run.events if is_sure(sure, event) and event not in book]
    return wrong + missing


def fits(world, run, book):
    """Whether the run fits the book."""
    return misfits(world, run, book) == []


def truth(world, run, now, *, failed=(), behind=None):
    """The book that honest houses have at the tick `now`."""
    network = world.network
    delays = {} if behind is None else behind
    heard = {site.house: now - delays.get(site.house, 0) for site in network.sites}
    heard = {house: tick for house, tick in heard.items() if tick >= 0}
    sure = sure_ticks(network, heard)
    records = []
    for event in run.events:
        # Events of other kinds are never scanned.
        house = record_house(network, event) if event[1] in WHERES else None
        if house in heard and event[0] <= heard[house]:
            if event not in failed or is_sure(sure, event):
                records.append(event)
    return Book(heard, records)
