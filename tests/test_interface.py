"""The opening of "The interface": names, arguments, and where each of them is defined."""

import importlib
import inspect
import unittest

FUNCTIONS = {
    "network": ["is_name(text)"],
    "timetable": [
        "daily(hour, first, days)", "repeated(trip, every, times)", "trip_text(trip)", "read_trip(line)",
        "timetable_text(network)",
    ],
    "tables": ["is_address(text)"],
    "sorting": ["check_ranks(sorting, address, ranks)", "parting_sites(one, other, entries)"],
    "routes": [
        "soonest(network, start, goal, tick)", "surely(network, start, goal, tick)",
        "last_chance(network, start, goal, by)", "landing_ticks(network, path, tick)",
    ],
    "manifests": [
        "manifest(nest, unit)", "read_manifest(text)", "nest_of(values, place)", "weight(nest, unit, weights)",
        "difference(one, other)",
    ],
    "goods": ["origin(good, share=50)", "origin_paper(good, share=50)", "check_origin(good, share, paper)"],
    "duties": ["duties(tariff, parcels)", "share_out(total, weights)", "clears(tariffs, land, parcel)"],
    "standings": ["first_standing(world)", "position(world, standing, unit)", "steps(world, standing, tick)"],
    "runs": [
        "run(world, course=((), ()))", "courses(world)", "count_courses(world, *, most=500)", "events_table(events)",
    ],
    "apart": [
        "earlier_course(world, count, course)", "later_course(world, count, course)", "crowded(world, *, most=500)",
        "apart_world(one, other, entries)",
    ],
    "records": ["record_house(network, record)", "happened(world, run, record)"],
    "books": ["exchange(books, meetings)", "heard_of(count, meetings)"],
    "truths": [
        "fits(world, run, book)", "misfits(world, run, book)", "truth(world, run, now, *, failed=(), behind=None)",
    ],
    "booktexts": ["book_text(book)", "read_book(text)"],
    "layers": [
        "meets(world, run, wish)", "layers(world, book, *, wish=None, most=500)",
        "first_course(world, book, *, wish=None, most=500)", "refutes(world, book, wish, table)",
        "answer(world, book, wish, *, most=500)", "shows(world, book, wish, course)",
        "reasons(world, book, wish, *, most=500)",
    ],
    "tellings": ["places(world, book, unit, tick, *, most=500)"],
    "scanners": [
        "blind_pair(world, sites, *, most=500)", "fewest_scanners(world, *, most=500)",
        "scanner_paper(world, *, most=500)", "check_scanners(world, sites, pairs, *, most=500)",
    ],
    "promises": [
        "delivery_ticks(world, ticket, *, book=None, most=500)", "is_given(world, ticket, day, *, book=None, most=500)",
        "day_sure(world, ticket, *, book=None, most=500)", "promise_answer(world, ticket, day, *, book=None, most=500)",
    ],
    "quotes": [
        "quote(world, parcel, *, most=500)", "quotes(world, parcel, *, most=500)",
        "bears(world, ticket, day, limit, *, most=500)", "needs(world, ticket, day, *, most=500)",
    ],
    "ledgers": [
        "ledger(world, run, prices)", "balances(postings)", "balance(postings, account)",
        "booked(world, book, prices, *, most=500)",
    ],
    "ranges": [
        "balance_range(world, book, prices, account, *, most=500)",
        "range_answer(world, book, prices, account, *, most=500)",
        "check_bars(world, book, prices, account, least, greatest, bars)",
    ],
    "settling": ["house_postings(postings)", "payments(balances)", "settled(balances, payments)"],
    "house": ["tried(house, deed)"],
}

# The methods of a class follow its own line; a name without parentheses is a property.
CLASSES = {
    "errors": {
        "ParcelError": [],
        "Invalid(what)": [],
        "Unknown(name)": [],
        "TooMany(limit, tick)": [],
        "Contradiction": [],
        "BadManifest(text)": [],
        "BadLine(line)": [],
        "Late(tick)": [],
        "Refused(days, course)": [],
    },
    "network": {
        "Site(name, house, land, code, *, rounds=(), sittings=(), searches=(), lag=None)": [],
        "Trip(name, start, goal, leaves, lands, *, late=0, room=9, toll=0)": [],
        "Closing(name, start, goal, tick, *, size=9)": [],
        "Network(sites, trips, closings)": [
            "without_trip(name)", "site(name)", "trip(name)", "closing(name)", "house_of(kind, name)",
        ],
    },
    "tables": {
        "Table(rows)": [
            "rows", "parting(other)", "least()", "changed(prefix, lane)", "written(**lanes)", "__call__(address)",
            "__eq__(other)", "__len__()",
        ],
    },
    "sorting": {
        "Sorting(tables)": [
            "names()", "table(site)", "changed(site, prefix, lane)", "lane(site, address)", "path(site, address)",
            "via(site, goal, address)", "marks()", "mark(address)", "unmarked()", "tests()", "faults(sites)",
            "ranks(address)",
        ],
    },
    "nests": {
        "Nest(places)": [
            "all_places", "place(unit)", "top(unit)", "position(unit)", "contents(bag)", "inside(unit)", "rank(unit)",
            "depth(unit)", "lying(place)", "moved(unit, place)", "packed(bag, *units)", "emptied(bag)",
            "__eq__(other)", "__contains__(unit)", "__len__()",
        ],
    },
    "goods": {"Good(heading, worth, land, parts=())": ["worth"]},
    "tariffs": {
        "Tariff(land, rows, *, free=0, share=50)": ["rows", "rate(heading, origin)", "admits(goods)", "parting(other)"],
    },
    "parcels": {
        "Parcel(ticket, address, start, taken, *, weight=1, days=None, sender='sender', receiver='receiver', goods=())":
            ["worth", "due"],
    },
    "worlds": {
        "World(network, sorting, parcels, *, tariffs=None, slips=0, wait=None)": [
            "parcel(ticket)", "claim_tick(ticket)", "first(count)", "only(ticket)", "added(parcel)",
            "with_slips(slips)", "with_sorting(sorting)", "with_network(network)",
        ],
    },
    "books": {
        "Book(heard=None, records=(), struck=())": [
            "heard", "records", "struck", "valid", "empty()", "hear(house, tick)", "note(record)", "strike(record)",
            "take(*others)", "lacks(other)", "part(network, house)", "__add__(other)", "__eq__(other)",
            "__contains__(record)", "__len__()",
        ],
    },
    "runs": {"Run": ["world", "standing(tick)", "position(unit, tick)", "delivered(ticket)"]},
    "tellings": {
        "Telling(world, book, *, most=500)": [
            "course_count", "places(unit, tick)", "possible()", "sure()", "known(unit, tick)",
        ],
    },
    "watches": {
        "Watch(world, book, *, most=500)": [
            "book", "note(record)", "strike(record)", "hear(house, tick)", "take(*books)", "places(unit, tick)",
        ],
    },
    "charges": {
        "Charge(word)": ["postings(world, event, tickets)"],
        "Postage(base, per_weight)": ["postings(world, event, tickets)", "fee(parcel)"],
        "Express(base, per_weight, express)": ["postings(world, event, tickets)", "fee(parcel)"],
        "Refund(base, per_weight)": ["postings(world, event, tickets)", "fee(parcel)"],
        "Toll()": ["postings(world, event, tickets)"],
        "Duty()": ["postings(world, event, tickets)"],
        "Cover(limit)": ["postings(world, event, tickets)"],
        "Prices(*charges)": ["postings(world, event, tickets)", "words()", "usual()"],
    },
    "house": {
        "House(network, sorting, *, tariffs=None, slips=0, wait=None, prices=None, most=500)": [
            "accept(address, start, taken, *, weight=1, days=None, sender='sender', receiver='receiver', goods=())",
            "hear(name, tick)", "note(record)", "strike(record)", "take(*books)", "places(unit, tick)",
            "day_sure(ticket)", "between(account)", "balance(account)", "settle()", "change_most(value)", "trial()",
            "world", "book", "prices", "course_count", "journal", "most", "__len__()", "__contains__(ticket)",
        ],
        "Trial": ["__enter__()", "__exit__(kind, value, trace)"],
    },
}

# The class directly above each class that does not stand alone.
BASES = {"Postage": "Charge", "Express": "Postage", "Refund": "Postage", "Toll": "Charge", "Duty": "Charge",
         "Cover": "Charge"}

CONSTANTS = {
    "timetable": {"DAY": 24}, "tables": {"HERE": ""}, "tariffs": {"ANY": "", "BARRED": None},
    "standings": {"MOST": 500},
}


def module_of(name):
    return importlib.import_module(f"everyparcel.{name}")


def parameters(function, own):
    """The parameters in parentheses, without the first one if the function is a method of an object."""
    found = list(inspect.signature(function).parameters.values())
    return str(inspect.Signature(found[1:] if own else found))


def told_member(member, name):
    if isinstance(member, property):
        return name
    if isinstance(member, staticmethod):
        return name + parameters(member.__func__, False)
    return name + parameters(member, True)


class InterfaceTest(unittest.TestCase):
    def test_the_functions(self):
        for file, lines in FUNCTIONS.items():
            for line in lines:
                name = line.split("(")[0]
                function = getattr(module_of(file), name)
                self.assertTrue(inspect.isfunction(function), line)
                self.assertEqual(name + parameters(function, False), line)
                self.assertEqual(function.__module__, f"everyparcel.{file}", line)

    def test_the_classes(self):
        for file, lines in CLASSES.items():
            for line in lines:
                name = line.split("(")[0]
                kind = getattr(module_of(file), name)
                self.assertTrue(inspect.isclass(kind), line)
                self.assertEqual(kind.__module__, f"everyparcel.{file}", line)
                if "(" in line:
                    self.assertEqual(name + parameters(vars(kind)["__init__"], True), line)

    def test_the_methods_stand_in_the_class_itself(self):
        for file, lines in CLASSES.items():
            for line, methods in lines.items():
                kind = getattr(module_of(file), line.split("(")[0])
                for method in methods:
                    name = method.split("(")[0]
                    self.assertIn(name, vars(kind), line)
                    self.assertEqual(told_member(vars(kind)[name], name), method)

    def test_the_classes_above_the_charges(self):
        for name, base in BASES.items():
            kind = getattr(module_of("charges"), name)
            self.assertEqual(kind.__bases__, (getattr(module_of("charges"), base),))
            self.assertIsInstance(kind(*[1 for _ in inspect.signature(kind).parameters]).word, str)

    def test_the_property_that_can_be_assigned(self):
        kind = module_of("house").House
        found = {name: member for name, member in vars(kind).items() if isinstance(member, property)}
        self.assertEqual([name for name, member in found.items() if member.fset], ["most"])

    def test_the_generator(self):
        self.assertTrue(inspect.isgeneratorfunction(module_of("runs").courses))

    def test_the_constants(self):
        for file, values in CONSTANTS.items():
            for name, value in values.items():
                self.assertEqual(getattr(module_of(file), name), value)


if __name__ == "__main__":
    unittest.main()
