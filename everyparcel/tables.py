"""Addresses, and the tables that tell a site where to send what (points 15 to 20)."""

from everyparcel.errors import Invalid, Unknown
from everyparcel.network import is_name
from everyparcel.spelling import spells_address

HERE = ""


def is_address(text):
    """Whether the string is an address: 1 to 8 digits."""
    return spells_address(text)


def longest_prefix(prefixes, address):
    """The longest prefix of the address that is a key of the dict, or None."""
    for end in range(len(address), 0, -1):
        if address[:end] in prefixes:
            return address[:end]
    return None


def by_length(addresses):
    """The addresses without duplicates, by length first and then in ascending order."""
    pairs = sorted(set([(len(address), address) for address in addresses]))
    return [pair[1] for pair in pairs]


def _is_lane(text):
    return text == HERE or is_name(text)


def _lane(lanes, address):
    """The lane that a dict from prefixes to lanes gives the address, or None."""
    prefix = longest_prefix(lanes, address)
    if prefix is None:
        return None
    return lanes[prefix]


class Table:
    """The rows (prefix, lane) of one site. Called with an address, it returns the lane."""

    def __init__(self, rows):
        lanes = {}
        for prefix, lane in rows:
            if not is_address(prefix) or not _is_lane(lane) or prefix in lanes:
                raise Invalid("table")
            lanes[prefix] = lane
        self._lanes = {prefix: lanes[prefix] for prefix in sorted(lanes)}

    def __call__(self, address):
        return _lane(self._lanes, address)

    def __eq__(self, other):
        return isinstance(other, Table) and self.parting(other) is None

    def __len__(self):
        return len(self._lanes)

    @property
    def rows(self):
        """The rows in ascending order of the prefix."""
        return list(self._lanes.items())

    def parting(self, other):
        """The least address for which the tables differ, by length first, or None."""
        for address in by_length(list(self._lanes) + list(other._lanes)):
            if _lane(self._lanes, address) != _lane(other._lanes, address):
                return address
        return None

    def least(self):
        """The table with the fewest rows that is alike to this one."""
        rows = []
        for prefix, lane in self._lanes.items():
            if lane != _lane(self._lanes, prefix[:-1]):
                rows.append((prefix, lane))
        return Table(rows)

    def changed(self, prefix, lane):
        """The table in which the row of that prefix has that lane, or is dropped if the lane is None."""
        # A wrong lane is found by the new table, but a dropped row does not come to it.
        if not is_address(prefix):
            raise Invalid("table")
        lanes = dict(self._lanes)
        if lane is not None:
            lanes[prefix] = lane
        elif prefix in lanes:
            del lanes[prefix]
        else:
            raise Unknown(prefix)
        return Table(list(lanes.items()))

    @staticmethod
    def written(**lanes):
        """The table of the keywords, each of which is the letter p followed by a prefix."""
        if not all([word.startswith("p") for word in lanes]):
            raise Invalid("table")
        return Table([(word[1:], lane) for word, lane in lanes.items()])
