"""A plain reading of all courses of small worlds: what points 55 to 93 say, word by word, course by course.

The courses are those of tests.plain. Nothing here goes from layer to layer.
"""

import random

from everyparcel.books import Book
from everyparcel.goods import Good, origin
from everyparcel.network import Closing, Network, Site, Trip
from everyparcel.parcels import Parcel
from everyparcel.runs import count_courses, run
from everyparcel.sorting import Sorting
from everyparcel.tables import HERE, Table
from everyparcel.tariffs import ANY, BARRED, Tariff
from everyparcel.truths import truth
from everyparcel.worlds import World
from tests.plain import made_world, plain_courses

KINDS = {"seen": "at", "aboard": "on"}


def order_of(record):
    tick, kind, unit, where = record
    return (tick, kind, where, str(unit))


def layer_of(world, tick):
    return len([one for one in world.ticks if one <= tick])


def place_of(world, branch, unit, tick):
    """The position of the unit after the tick in the course."""
    layer = layer_of(world, tick)
    if layer == 0:
        return ("not", "")
    places = dict(zip(world.units, branch.standings[layer - 1][1]))
    while places[unit][0] == "in":
        unit = places[unit][1]
    return places[unit]


def is_true(world, branch, record):
    tick, kind, unit, where = record
    if kind in KINDS:
        return place_of(world, branch, unit, tick) == (KINDS[kind], where)
    return record in branch.events


def is_overdue(world, book, event):
    """Whether the event is a landing that the book should have, and has not."""
    tick, kind, _, where = event
    if kind != "landed" or event in book:
        return False
    site = [site for site in world.network.sites if site.name == where][0]
    return site.lag is not None and site.house in book.heard and tick <= book.heard[site.house] - site.lag


def does_fit(world, branch, book):
    return (all(is_true(world, branch, record) for record in book.valid)
            and not any(is_overdue(world, book, event) for event in branch.events))


def does_meet(world, branch, wish):
    if wish is None:
        return True
    place = place_of(world, branch, wish[1], wish[2])
    return place[0] != "out" if wish[0] == "late" else place == wish[3]


def fitting(world, branches, book, wish=None):
    """The courses that fit the book and meet the wish, in their order."""
    return [branch for branch in branches if does_fit(world, branch, book) and does_meet(world, branch, wish)]


def places_of(world, some, unit, tick):
    return sorted({place_of(world, branch, unit, tick) for branch in some})


def plain_layers(world, branches, book, wish=None):
    """Point 63: the standings of each layer to which the beginnings of courses lead that fit as far as they go."""
    events = [record for record in book.valid if record[1] not in KINDS]
    if any(record[0] not in world.ticks for record in events):
        return [[] for _ in range(len(world.ticks) + 1)]
    layers = [set() for _ in range(len(world.ticks) + 1)]
    for branch in branches:
        for layer in range(len(world.ticks) + 1):
            if not fits_up_to(world, branch, book, wish, layer):
                break
            layers[layer].add(standing_of(world, branch, layer))
    return [sorted(layer) for layer in layers]


def standing_of(world, branch, layer):
    if layer:
        return branch.standings[layer - 1]
    lands = tuple(world.network.site(parcel.start).land for parcel in world.parcels)
    return (0, tuple(("not", "") for _ in world.units), lands)


def fits_up_to(world, branch, book, wish, layer):
    """Whether what the course does at the tick of that layer, and its standing there, fit."""
    if wish is not None and layer_of(world, wish[2]) == layer and not does_meet(world, branch, wish):
        return False
    for record in book.valid:
        if record[1] in KINDS:
            if layer_of(world, record[0]) == layer and not is_true(world, branch, record):
                return False
        elif layer and record[0] == world.ticks[layer - 1] and record not in branch.events:
            return False
    now = world.ticks[layer - 1] if layer else None
    return not any(event[0] == now and is_overdue(world, book, event) for event in branch.events)


def plain_postings(world, branch):
    """The ledger of the course by the usual prices (points 79 to 82), with the bags kept by hand."""
    found, inside = [], {}
    for event in branch.events:
        tick, kind, unit, where = event
        for ticket in [unit] if isinstance(unit, int) else sorted(inside[unit]):
            found.extend(plain_charges(world, event, ticket))
        if kind == "packed":
            inside.setdefault(where, []).extend([unit] if isinstance(unit, int) else inside[unit])
    return [posting for posting in found if posting[3] > 0]


def plain_charges(world, event, ticket):
    tick, kind, _, where = event
    parcel, network = world.parcel(ticket), world.network
    sender, house = ("sender", parcel.sender), ("house", network.site(parcel.start).house)
    claim = None if world.wait is None or parcel.due is None else parcel.due + 24 * world.wait
    cents = min(parcel.worth, 50000)
    if kind == "taken":
        yield (tick, sender, house, 400 + 3 * parcel.weight, "postage", ticket)
    if kind == "loaded":
        other = ("house", network.site(network.trip(where).start).house)
        if other != house:
            yield (tick, house, other, network.trip(where).toll, "toll", ticket)
    if kind == "cleared" and network.site(where).land in world.tariffs:
        land = network.site(where).land
        yield (tick, sender, ("land", land), plain_duty(world, world.tariffs[land], parcel), "duty", ticket)
    if kind == "out" and parcel.due is not None and tick > parcel.due:
        yield (tick, house, sender, 400 + 3 * parcel.weight, "refund", ticket)
    if kind == "claimed":
        yield (tick, house, sender, cents, "cover", ticket)
    if kind == "out" and claim is not None and tick > claim:
        yield (tick, sender, house, cents, "return", ticket)


def plain_duty(world, tariff, parcel):
    """The duty of the parcel, where each class of goods stands in one parcel of a consignment alone."""
    def key(one):
        return (one.sender, one.receiver, one.taken // 24)
    if sum(one.worth for one in world.parcels if key(one) == key(parcel)) <= tariff.free:
        return 0
    found = 0
    for good in parcel.goods:
        rate = tariff.rate(good.heading, origin(good, tariff.share))
        found += 0 if rate is None else (good.worth * rate + 500) // 1000
    return found


def plain_balance(postings, account):
    return sum(cents * ((creditor == account) - (debtor == account)) for _, debtor, creditor, cents, _, _ in postings)


def in_ledger_order(postings):
    return sorted(postings, key=lambda posting: (posting[0], posting[4], posting[5]))


def made_rich_world(chance):
    """A row of sites of several houses and lands, along which parcels go, with much to pay on the way."""
    names = "abc"
    sites = []
    for code, name in enumerate(names, 1):
        sites.append(Site(name, chance.choice("hkm"), chance.choice("xxy"), str(code), lag=chance.choice([None, 0, 2]),
                          rounds=sorted(chance.sample([5, 9, 13, 26, 30], chance.randint(1, 3))),
                          sittings=sorted(chance.sample(range(1, 12), 3)),
                          searches=sorted(chance.sample(range(2, 9), chance.randint(0, 2)))))
    trips = []
    for number in range(chance.randint(2, 5)):
        start, goal = chance.choice(["ab", "ab", "bc", "bc", "ac"])
        leaves = chance.randint(0, 4) if start == "a" else chance.randint(3, 9)
        trips.append(Trip(f"t{number}", start, goal, leaves, leaves + chance.randint(1, 4),
                          late=chance.choice([0, 1, 2]), room=chance.choice([1, 2, 9]), toll=chance.choice([0, 2, 5])))
    closings = [Closing("k", *chance.choice(["ab", "bc", "ac"]), chance.randint(0, 6))] * chance.randint(0, 1)
    lanes = {"a": [("1", HERE), ("2", "b"), ("3", chance.choice("bbc"))], "b": [("2", HERE), ("3", "c")],
             "c": [("3", HERE)]}
    sorting = Sorting({name: Table(rows) for name, rows in lanes.items()})
    parcels = [made_rich_parcel(chance, ticket) for ticket in sorted(chance.sample(range(1, 13), chance.randint(1, 3)))]
    rates = [("1", ANY, 250), ("2", ANY, chance.choice([BARRED, 3]))]
    tariffs = {chance.choice("xyy"): Tariff("y", rates, free=chance.choice([0, 5000]))}
    return World(Network(sites, trips, closings), sorting, parcels, tariffs=tariffs, slips=chance.choice([0, 1]),
                 wait=chance.choice([None, 0]))


def made_story_world(chance):
    """A row of three sites of three houses, with tolls, a border and claims, so that much depends on what happens."""
    sites = [Site("a", "h", "x", "1", searches=chance.choice([[], [3], [4, 6]])),
             Site("b", "k", "x", "2", lag=chance.choice([None, 0, 1])),
             Site("c", "m", "y", "3", lag=chance.choice([None, 0, 2]), rounds=[12, 26],
                  sittings=chance.choice([[9], [10, 25]]))]
    trips = [Trip("t", "a", "b", 2, 4, late=chance.choice([1, 2])), Trip("u", "a", "b", 5, 6, late=1, toll=1),
             Trip("v", "b", "c", 4, 7, toll=6, room=chance.choice([1, 9])), Trip("w", "b", "c", 6, 9, toll=7, late=1),
             Trip("z", "b", "c", 8, 9, toll=8)]
    closings = [Closing("k", "a", "c", chance.choice([2, 5]))] * chance.randint(0, 1)
    sorting = Sorting({"a": Table([("3", "b"), ("1", HERE)]), "b": Table([("3", "c")]), "c": Table([("3", HERE)])})
    tariffs = {"y": Tariff("y", [("1", ANY, 100)], free=chance.choice([0, 4000]))}
    parcels = []
    for ticket in range(1, chance.randint(1, 3) + 1):
        goods = [Good(f"1{ticket}", chance.choice([9, 4000, 60000]), "x")]
        parcels.append(Parcel(ticket, chance.choice("33331"), chance.choice("aaaab"), chance.randint(0, 2),
                              days=chance.choice([None, 0]), weight=chance.randint(1, 9),
                              sender=chance.choice(["ann", "bob"]), goods=goods))
    return World(Network(sites, trips, closings), sorting, parcels, tariffs=tariffs, slips=chance.choice([0, 0, 1]),
                 wait=chance.choice([None, 0]))


def made_rich_parcel(chance, ticket):
    # Each parcel has a heading of its own, so that no class of goods is shared.
    goods = [Good(f"{chance.choice('112')}{ticket}", chance.choice([0, 9, 4000, 60000]), "x")] * chance.randint(0, 2)
    return Parcel(ticket, chance.choice("2333"), chance.choice("aaab"), chance.randint(0, 3),
                  weight=chance.randint(1, 9), days=chance.choice([None, 0]), sender=chance.choice(["ann", "bob"]),
                  goods=goods[:1])


def made_record(chance, world):
    """A record of the right form, mostly not a true one."""
    network = world.network
    kind = chance.choice(["taken", "landed", "out", "seen", "seen", "aboard", "loaded", "packed", "emptied"])
    things = {"aboard": network.trips, "loaded": network.trips, "packed": network.closings}.get(kind, network.sites)
    if not things or not world.units:
        return None
    return (chance.randint(0, 14), kind, chance.choice(world.units), chance.choice(things).name)


def made_book(chance, world, branches):
    """A book of what some course does, by chance with records left out, positions, wrong records and struck ones."""
    branch = chance.choice(branches)
    failed = [event for event in branch.events if chance.random() < 0.5]
    behind = {"h": chance.randint(0, 6)} if chance.random() < 0.5 else None
    book = truth(world, run(world, branch.course()), chance.randint(0, 14), failed=failed, behind=behind)
    if chance.random() < 0.5:
        book = Book(book.heard if chance.random() < 0.5 else {}, [one for one in book.records if chance.random() < 0.5])
    for unit in world.units:
        if chance.random() < 0.3:
            tick = chance.randint(0, 15)
            kind, name = place_of(world, branch, unit, tick)
            words = {"at": "seen", "on": "aboard"}
            if kind in words:
                book.note((tick, words[kind], unit, name))
    if chance.random() < 0.2:
        record = made_record(chance, world)
        if record is not None:
            book.note(record)
    if book.records and chance.random() < 0.2:
        book.strike(chance.choice(book.records))
    return book


def made_wish(chance, world, branches):
    """A wish that some course meets, or another one, or None."""
    if not world.units or chance.random() < 0.1:
        return None
    tick = chance.randint(0, 15)
    if world.tickets and chance.random() < 0.4:
        return ("late", chance.choice(world.tickets), tick)
    unit = chance.choice(world.units)
    place = place_of(world, chance.choice(branches), unit, chance.choice([tick, chance.randint(0, 15)]))
    return ("is", unit, tick, place)


def small_worlds(many, seed, *, least=2, most=40, rich=False):
    """Pairs of a small world and its courses; most of the worlds have several."""
    chance = random.Random(seed)
    found = []
    while len(found) < many:
        world = made_rich_world(chance) if rich else made_world(chance)
        floor = least if chance.random() < 0.9 else 1
        if floor <= count_courses(world, most=10 ** 6) <= most:
            found.append((world, plain_courses(world)))
    return found
