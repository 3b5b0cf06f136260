"""Bags within bags (points 25 to 30)."""

from everyparcel.errors import Invalid, Unknown

KINDS = ("not", "at", "on", "in", "lost", "out", "gone")
NOT = ("not", "")
GONE = ("gone", "")
DEEPEST = 20


def is_bag(unit):
    """Whether the unit is a bag: bags have names, and parcels have tickets."""
    return isinstance(unit, str)


def _exists(places, bag):
    return is_bag(bag) and bag in places and places[bag][0] not in ("not", "gone")


def _bags_around(places, unit):
    """The bags around the unit, from the inside out, but no more than one too many: they may go round."""
    bags = []
    kind, name = places[unit]
    while kind == "in" and len(bags) <= DEEPEST:
        bags.append(name)
        kind, name = places[name]
    return bags


def _is_place(places, unit):
    """Whether the place of the unit is right, as far as other units do not count."""
    kind, name = places[unit]
    if kind not in KINDS or (kind in ("not", "gone") and name != ""):
        return False
    if is_bag(unit):
        return kind != "out"
    return kind != "gone" and unit >= 1


def _is_nest(places):
    """Whether the places keep the conditions of a nest."""
    if not all([_is_place(places, unit) for unit in places]):
        return False
    around = [name for kind, name in places.values() if kind == "in"]
    if not all([_exists(places, bag) for bag in around]):
        return False
    filled = {bag: True for bag in around}
    if not all([unit in filled for unit in places if _exists(places, unit)]):
        return False
    return all([len(_bags_around(places, unit)) <= DEEPEST for unit in places])


def _in_order(places):
    """The places of the parcels in ascending order, and then those of the bags."""
    tickets = sorted([unit for unit in places if not is_bag(unit)])
    bags = sorted([unit for unit in places if is_bag(unit)])
    return {unit: places[unit] for unit in tickets + bags}


def _ranks_of(places):
    """The ranks of all units that have one, in ascending order."""
    ranks = {}
    # The parcels come in ascending order, so the first one that is met in a bag is the least.
    for unit in places:
        if not is_bag(unit):
            ranks[unit] = unit
            for bag in _bags_around(places, unit):
                ranks.setdefault(bag, unit)
    return ranks


def _contents_of(places, ranks):
    """The lists of the units that lie directly in each bag, in rank order."""
    contents = {unit: [] for unit in places if is_bag(unit)}
    for unit in ranks:
        kind, name = places[unit]
        if kind == "in":
            contents[name].append(unit)
    return contents


def _can_be_packed(units, places):
    """Whether the units are at least one, each of them once, and all of them at the same site."""
    return len(set(places)) == 1 and places[0][0] == "at" and len(set(units)) == len(units)


class Nest:
    """The places of units."""

    def __init__(self, places):
        self._places = _in_order(places)
        if not _is_nest(self._places):
            raise Invalid("nest")
        self._ranks = _ranks_of(self._places)
        self._contents = _contents_of(self._places, self._ranks)

    def __eq__(self, other):
        return isinstance(other, Nest) and self._places == other._places

    def __contains__(self, unit):
        return unit in self._places

    def __len__(self):
        return len(self._places)

    @property
    def all_places(self):
        """The places of all units, first of the parcels and then of the bags, in ascending order."""
        return dict(self._places)

    def place(self, unit):
        """The unit's own place."""
        if unit not in self._places:
            raise Unknown(unit)
        return self._places[unit]

    def top(self, unit):
        """The outermost unit that contains the unit, or the unit itself."""
        self.place(unit)
        around = _bags_around(self._places, unit)
        return around[-1] if around else unit

    def position(self, unit):
        """The place of the outermost unit that contains the unit."""
        return self.place(self.top(unit))

    def contents(self, bag):
        """The units that lie directly in the bag, in rank order."""
        self._check_bag(bag)
        return list(self._contents[bag])

    def inside(self, unit):
        """The ascending list of the tickets of all parcels in the unit, at any depth."""
        self.place(unit)
        tickets = []
        waiting = [unit]
        while waiting:
            one = waiting.pop()
            if is_bag(one):
                waiting.extend(self._contents[one])
            else:
                tickets.append(one)
        return sorted(tickets)

    def rank(self, unit):
        """The least ticket in the unit, or None for a bag that does not exist."""
        self.place(unit)
        return self._ranks.get(unit)

    def depth(self, unit):
        """The number of bags around the unit."""
        self.place(unit)
        return len(_bags_around(self._places, unit))

    def lying(self, place):
        """The units whose own place is the given one, in rank order."""
        # Bags that do not exist have no rank; units without one stay in the order of all places.
        order = self._places if place in (NOT, GONE) else self._ranks
        return [unit for unit in order if self._places[unit] == place]

    def moved(self, unit, place):
        """The nest in which the unit has the place."""
        if self.place(unit)[0] == "in":
            raise Invalid("nest")
        places = self.all_places
        places[unit] = place
        return Nest(places)

    def packed(self, bag, *units):
        """The nest in which the units are in the bag, where they were."""
        self._check_bag(bag)
        before = [self.place(unit) for unit in units]
        if self._places[bag] != NOT or not _can_be_packed(units, before):
            raise Invalid("nest")
        places = self.all_places
        places[bag] = before[0]
        for unit in units:
            places[unit] = ("in", bag)
        return Nest(places)

    def emptied(self, bag):
        """The nest in which all that lies directly in the bag is where the bag was, and the bag is gone."""
        self._check_bag(bag)
        if not _exists(self._places, bag) or self._places[bag][0] == "in":
            raise Invalid("nest")
        places = self.all_places
        for unit in self._contents[bag]:
            places[unit] = places[bag]
        places[bag] = GONE
        return Nest(places)

    def _check_bag(self, unit):
        self.place(unit)
        if not is_bag(unit):
            raise Unknown(unit)
