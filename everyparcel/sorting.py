"""The plan of sorting: the tables of several sites (points 21 to 24)."""

from everyparcel.errors import Invalid, Unknown
from everyparcel.network import is_name
from everyparcel.spelling import DIGITS
from everyparcel.tables import HERE, Table, by_length, longest_prefix


def _lanes_of(table):
    return [lane for prefix, lane in table.rows]


def _marks_of(tables):
    """All prefixes of the tables as the keys of a dict, in ascending order."""
    prefixes = []
    for table in tables:
        prefixes.extend([prefix for prefix, lane in table.rows])
    return {prefix: True for prefix in sorted(set(prefixes))}


class Sorting:
    """The tables of several sites, by the names of the sites."""

    def __init__(self, tables):
        for site, table in tables.items():
            if not is_name(site) or site in _lanes_of(table):
                raise Invalid("sorting")
        self._tables = {site: tables[site] for site in sorted(tables)}
        self._marks = _marks_of(list(self._tables.values()))

    def names(self):
        """The ascending list of the sites that have a table."""
        return list(self._tables)

    def stations(self):
        """The ascending list of the sites that have a table or are the lane of some row."""
        sites = list(self._tables)
        for table in self._tables.values():
            sites.extend([lane for lane in _lanes_of(table) if lane != HERE])
        return sorted(set(sites))

    def table(self, site):
        """The table of the site."""
        if site not in self._tables:
            raise Unknown(site)
        return self._tables[site]

    def changed(self, site, prefix, lane):
        """The sorting in which the table of that site is changed."""
        tables = dict(self._tables)
        before = tables.get(site, Table([]))
        tables[site] = before.changed(prefix, lane)
        return Sorting(tables)

    def lane(self, site, address):
        """The lane of the site for the address, or None."""
        if site not in self._tables:
            return None
        table = self._tables[site]
        return table(address)

    def path(self, site, address):
        """The sites to which the lanes lead, beginning with the site, and the word for how they end."""
        sites = [site]
        seen = set()
        seen.add(site)
        lane = self.lane(site, address)
        while lane is not None and lane != HERE:
            sites.append(lane)
            if lane in seen:
                return (sites, "loop")
            seen.add(lane)
            lane = self.lane(lane, address)
        return (sites, "none" if lane is None else "here")

    def via(self, site, goal, address):
        """Whether the goal stands in the path behind its first place."""
        return goal in self.path(site, address)[0][1:]

    def marks(self):
        """The ascending list of all prefixes of all rows of all tables."""
        return list(self._marks)

    def mark(self, address):
        """The longest prefix of the address that is a mark, or None."""
        return longest_prefix(self._marks, address)

    def unmarked(self):
        """The least address without a mark, or None."""
        for digit in DIGITS:
            if digit not in self._marks:
                return digit
        return None

    def tests(self):
        """The addresses that stand for all: the marks, and the least address without a mark."""
        digit = self.unmarked()
        return self.marks() + ([] if digit is None else [digit])

    def faults(self, sites):
        """The triples (site, address, word) of the paths that do not end in "here"."""
        found = []
        for site in sites:
            for address in self.tests():
                word = self.path(site, address)[1]
                if word != "here":
                    found.append((site, address, word))
        return found

    def ranks(self, address):
        """How many rides each site is away from the end of its path, or None where it has no good end."""
        found = {}
        for site in self.stations():
            sites, word = self.path(site, address)
            found[site] = len(sites) - 1 if word == "here" else None
        return found


def _rank_by(lane, ranks):
    """The rank that the rule gives a site with that lane."""
    if lane == HERE:
        return 0
    if lane is None or ranks[lane] is None:
        return None
    return ranks[lane] + 1


def check_ranks(sorting, address, ranks):
    """Whether the ranks have the right sites as keys and follow the rule, site by site."""
    if sorted(ranks) != sorting.stations():
        return False
    for site, rank in ranks.items():
        if rank != _rank_by(sorting.lane(site, address), ranks):
            return False
    return True


def parting_sites(one, other, entries):
    """The first entry and the least address for it whose paths differ, or None."""
    addresses = by_length(one.marks() + other.marks())
    for site in entries:
        for address in addresses:
            if one.path(site, address) != other.path(site, address):
                return (site, address)
    return None
