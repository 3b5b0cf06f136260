"""Books of what is known, and how they grow (points 56 and 57)."""

from everyparcel.errors import Invalid
from everyparcel.records import record_house


def record_order(record):
    """What the order of records goes by."""
    tick, kind, unit, where = record
    return (tick, kind, where, str(unit))


def in_order(records):
    """The records in their order, without duplicates."""
    found = {record: True for record in records}
    return sorted(list(found), key=record_order)


class Book:
    """The records and struck records that are known, and the ticks up to which houses are heard."""

    def __init__(self, heard=None, records=(), struck=()):
        self._heard = {} if heard is None else dict(heard)
        self._records = {record: True for record in records}
        self._struck = {record: True for record in struck}

    def __eq__(self, other):
        if not isinstance(other, Book):
            return False
        return self._heard == other._heard and self._records == other._records and self._struck == other._struck

    def __contains__(self, record):
        return record in self._records and record not in self._struck

    def __len__(self):
        return len([record for record in self._records if record not in self._struck])

    def __add__(self, other):
        heard = dict(self._heard)
        for house, tick in other._heard.items():
            heard[house] = max(tick, heard.get(house, tick))
        records = list(self._records) + list(other._records)
        return Book(heard, records, list(self._struck) + list(other._struck))

    @staticmethod
    def empty():
        """A book with nothing in it."""
        return Book()

    @property
    def heard(self):
        """The ticks up to which houses are heard, in ascending order of the houses."""
        return {house: self._heard[house] for house in sorted(self._heard)}

    @property
    def records(self):
        """All records in order, struck or not."""
        return in_order(list(self._records))

    @property
    def struck(self):
        """The struck records in order."""
        return in_order(list(self._struck))

    @property
    def valid(self):
        """The records in order that are not struck."""
        return in_order([record for record in self._records if record not in self._struck])

    def hear(self, house, tick):
        """Hears the house up to the tick, if it is not heard that far."""
        self._heard[house] = max(tick, self._heard.get(house, tick))

    def note(self, record):
        """Adds the record."""
        self._records[record] = True

    def strike(self, record):
        """Strikes the record, whether it is among the records or not."""
        self._struck[record] = True

    def take(self, *others):
        """Adds all that the other books hold."""
        for other in others:
            for house, tick in other.heard.items():
                self.hear(house, tick)
            for record in other.records:
                self.note(record)
            for record in other.struck:
                self.strike(record)

    def lacks(self, other):
        """The least book with which the other one holds what both hold."""
        theirs = other._heard
        heard = {house: tick for house, tick in self._heard.items() if house not in theirs or theirs[house] < tick}
        records = [record for record in self._records if record not in other._records]
        return Book(heard, records, [record for record in self._struck if record not in other._struck])

    def part(self, network, house):
        """What the house itself made of the book."""
        made = [record for record in in_order(self.records + self.struck) if record_house(network, record) == house]
        heard = {name: tick for name, tick in self._heard.items() if name == house}
        records = [record for record in made if record in self._records]
        return Book(heard, records, [record for record in made if record in self._struck])


def _check_meetings(count, meetings):
    for one, other in meetings:
        if not 0 <= one < count or not 0 <= other < count:
            raise Invalid("meeting")


def exchange(books, meetings):
    """The books after the meetings, at each of which two of them become the sum of the two."""
    _check_meetings(len(books), meetings)
    held = list(books)
    for one, other in meetings:
        both = held[one] + held[other]
        held[one] = both
        held[other] = both
    # Each place gets a book of its own: two that met hold the same one, and who met nobody a passed one.
    return [book + Book() for book in held]


def heard_of(count, meetings):
    """Whose first knowledge has come to each of so many books after the meetings."""
    _check_meetings(count, meetings)
    known = [[at] for at in range(count)]
    for one, other in meetings:
        both = sorted(set(known[one] + known[other]))
        known[one] = both
        known[other] = both
    return [list(indexes) for indexes in known]
