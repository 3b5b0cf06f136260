"""What befell in money, and what of it is certain (points 82 and 83)."""

from everyparcel.nests import is_bag
from everyparcel.paths import some_paths
from everyparcel.standings import MOST, first_standing
from everyparcel.stepping import Stepper
from everyparcel.tellings import in_all


def _is_in(holders, unit, bag):
    """Whether the unit lies in the bag at any depth, by the bags in which units lie directly."""
    while unit in holders:
        unit = holders[unit]
        if unit == bag:
            return True
    return False


def _tickets_in(world, holders, unit):
    """The ascending list of the tickets of the parcels in the unit."""
    if not is_bag(unit):
        return [unit]
    return [ticket for ticket in world.tickets if _is_in(holders, ticket, unit)]


def postings_of(world, standing, events, prices):
    """The postings of events that follow each other from the standing on."""
    holders = {unit: name for unit, (kind, name) in zip(world.units, standing[1]) if kind == "in"}
    found = []
    for event in events:
        found.extend(prices.postings(world, event, _tickets_in(world, holders, event[2])))
        # A bag that was emptied has no event any more, so nothing needs to be taken out of it.
        if event[1] == "packed":
            holders[event[2]] = event[3]
    return found


class Clerk:
    """Makes the postings of steps by the prices, and keeps them, since many books ask for the same steps."""

    def __init__(self, world, prices):
        self._world = world
        self._prices = prices
        self._kept = {}

    def made_by(self, step):
        """The postings of the step."""
        if step not in self._kept:
            self._kept[step] = postings_of(self._world, step.before, step.events, self._prices)
        return self._kept[step]


def ledger(world, run, prices):
    """The postings of the run, event after event."""
    return postings_of(world, first_standing(world), run.events, prices)


def balances(postings):
    """The balances of all accounts in the postings, in ascending order of the accounts."""
    found = {}
    for _, debtor, creditor, cents, _, _ in postings:
        found[debtor] = found.get(debtor, 0) - cents
        found[creditor] = found.get(creditor, 0) + cents
    return {account: found[account] for account in sorted(found)}


def balance(postings, account):
    """The balance of one account."""
    owed = sum([posting[3] for posting in postings if posting[2] == account])
    return owed - sum([posting[3] for posting in postings if posting[1] == account])


def booked(world, book, prices, *, most=MOST):
    """The postings that the ledger of every course has that fits the book."""
    paths = some_paths(world, Stepper(world), book, most)
    return sure_postings(paths, Clerk(world, prices))


def sure_postings(paths, clerk):
    """The postings that the ledger of each of the courses has, in order."""
    found = []
    for ways in paths.ways:
        # A posting has the tick of its event, so each course makes it in its step at that tick, if at all.
        found.extend(in_all([clerk.made_by(step) for steps in ways.values() for step in steps]))
    return in_posting_order(found)


def in_posting_order(postings):
    """The postings by their ticks, words and tickets."""
    return sorted(postings, key=lambda posting: (posting[0], posting[4], posting[5]))
