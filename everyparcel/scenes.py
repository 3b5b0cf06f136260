"""What happens at one tick (points 43 to 45)."""

from everyparcel.duties import clears
from everyparcel.nests import GONE, is_bag
from everyparcel.tables import HERE


class Tries:
    """Choices between two ways, made by a list: True stands for the first way, which is also taken behind the list."""

    def __init__(self, given):
        self._given = given
        self._made = []

    def lands_now(self, trip, tick):
        """Whether the trip lands at the tick, where it may still be late."""
        return self._choose()

    def is_loaded(self, trip, unit):
        """Whether the unit to which the trip comes is loaded, where it can be mislaid."""
        return self._choose()

    def _choose(self):
        at = len(self._made)
        self._made.append(self._given[at] if at < len(self._given) else True)
        return self._made[at]

    def next_list(self):
        """The list that makes the next choices in their order, or None if these were the last ones."""
        made = list(self._made)
        while made and not made[-1]:
            made.pop()
        if not made:
            return None
        return made[:-1] + [False]


class Scene:
    """A world at one tick. What happens there is done thing by thing, each on what those before it have left.

    Beside the events the scene tells which pairs the tick adds to the course of point 46 (`late` and `lost`), and
    which trips and closings left a unit behind for lack of room (`left`).
    """

    def __init__(self, world, standing, tick, choices):
        used, places, lands = standing
        self.events = []
        self.late = []
        self.lost = []
        self.left = []
        self._world = world
        self._before = standing
        self._tick = tick
        self._choices = choices
        self._used = used
        self._places = dict(zip(world.units, places))
        self._lands = dict(zip(world.tickets, lands))

    def play(self):
        """Does the nine things of point 44."""
        for trip in self._carrying_trips():
            self._land(trip)
        for site in self._due_now("found"):
            self._search(site)
        for site in self._sites_with_bags():
            self._empty_bags(site)
        for site in self._due_now("cleared"):
            self._sit(site)
        for site in self._due_now("out"):
            self._deliver(site)
        for parcel in self._due_now("taken"):
            self._place(parcel.ticket, ("at", parcel.start), "taken", parcel.start)
        for closing in self._due_now("packed"):
            self._close(closing)
        for trip in self._due_now("loaded"):
            self._load(trip)
        for parcel in self._due_now("claimed"):
            self._claim(parcel)

    def standing(self):
        """The standing as it is now."""
        if not self.events:
            return self._before
        places = tuple([self._places[unit] for unit in self._world.units])
        return (self._used, places, tuple([self._lands[ticket] for ticket in self._world.tickets]))

    def _due_now(self, kind):
        return self._world.agenda.told(kind, self._tick)

    def _place(self, unit, place, kind, where):
        """Gives the unit the place, and tells the event of that kind."""
        self._places[unit] = place
        self.events.append((self._tick, kind, unit, where))

    def _outermost(self, place):
        """The units at the place that lie in no bag, in rank order."""
        found = {}
        # The tickets ascend, so the ticket by which a unit is met first is its rank.
        for ticket in self._world.tickets:
            unit = self._top(ticket)
            if self._places[unit] == place:
                found[unit] = True
        return list(found)

    def _top(self, unit):
        """The outermost unit around the unit, or the unit itself."""
        while self._places[unit][0] == "in":
            unit = self._places[unit][1]
        return unit

    def _is_held(self, unit, land):
        """Whether a unit that is outermost at a site of that land is held there."""
        return not is_bag(unit) and self._lands[unit] != land

    def _ready(self, site):
        """The ready units at the site of that name, in rank order."""
        land = self._world.network.site(site).land
        return [unit for unit in self._outermost(("at", site)) if not self._is_held(unit, land)]

    def _address(self, unit):
        if is_bag(unit):
            return self._world.network.site(self._goal(unit)).code
        return self._world.parcel(unit).address

    def _goal(self, bag):
        return self._world.network.closing(bag).goal

    def _lane(self, site, unit):
        return self._world.sorting.lane(site, self._address(unit))

    def _carrying_trips(self):
        """The trips that carry a unit, in network order."""
        names = {name: True for kind, name in self._places.values() if kind == "on"}
        trips = [self._world.network.trip(name) for name in names]
        return sorted(trips, key=lambda trip: (trip.leaves, trip.name))

    def _land(self, trip):
        if not trip.lands <= self._tick <= trip.lands + trip.late:
            return
        if self._tick < trip.lands + trip.late and not self._choices.lands_now(trip, self._tick):
            return
        for unit in self._outermost(("on", trip.name)):
            self._place(unit, ("at", trip.goal), "landed", trip.goal)
        if self._tick > trip.lands:
            self.late.append((trip.name, self._tick - trip.lands))

    def _search(self, site):
        for unit in self._outermost(("lost", site.name)):
            self._place(unit, ("at", site.name), "found", site.name)

    def _sites_with_bags(self):
        """The names of the sites that are the goal of a bag that lies there, in network order."""
        closings = self._world.network.closings
        return sorted(set([one.goal for one in closings if self._places[one.name] == ("at", one.goal)]))

    def _bags_to_empty(self, site):
        return [unit for unit in self._outermost(("at", site)) if is_bag(unit) and self._goal(unit) == site]

    def _empty_bags(self, site):
        bags = self._bags_to_empty(site)
        while bags:
            self._place(bags[0], GONE, "emptied", site)
            for unit in self._world.units:
                if self._places[unit] == ("in", bags[0]):
                    self._places[unit] = ("at", site)
            # A bag that lay in this one may have its goal here, and may be the next by its rank.
            bags = self._bags_to_empty(site)

    def _sit(self, site):
        for unit in self._outermost(("at", site.name)):
            if self._is_held(unit, site.land):
                if clears(self._world.tariffs, site.land, self._world.parcel(unit)):
                    self._lands[unit] = site.land
                    self.events.append((self._tick, "cleared", unit, site.name))

    def _deliver(self, site):
        for unit in self._ready(site.name):
            if not is_bag(unit) and self._lane(site.name, unit) == HERE:
                self._place(unit, ("out", site.name), "out", site.name)

    def _close(self, closing):
        sorting, start, goal = self._world.sorting, closing.start, closing.goal
        units = [unit for unit in self._ready(start) if sorting.via(start, goal, self._address(unit))]
        for unit in units[:closing.size]:
            self._place(unit, ("in", closing.name), "packed", closing.name)
        if units:
            self._places[closing.name] = ("at", start)
        if len(units) > closing.size:
            self.left.append(("closing", closing.name))

    def _load(self, trip):
        loaded = 0
        units = [unit for unit in self._ready(trip.start) if self._lane(trip.start, unit) == trip.goal]
        for unit in units:
            if loaded >= trip.room:
                self.left.append(("trip", trip.name))
                return
            if self._used < self._world.slips and not self._choices.is_loaded(trip, unit):
                self._place(unit, ("lost", trip.start), "mislaid", trip.start)
                self._used += 1
                self.lost.append((trip.name, unit))
            else:
                self._place(unit, ("on", trip.name), "loaded", trip.name)
                loaded += 1

    def _claim(self, parcel):
        if self._places[parcel.ticket][0] != "out":
            self.events.append((self._tick, "claimed", parcel.ticket, parcel.start))


def played(world, standing, tick, choices):
    """The scene of what happens at the tick by these choices."""
    scene = Scene(world, standing, tick, choices)
    scene.play()
    return scene


def all_played(world, standing, tick):
    """The scenes of all that can happen at the tick, in the order of their choices."""
    found = []
    given = []
    while given is not None:
        tries = Tries(given)
        found.append(played(world, standing, tick, tries))
        given = tries.next_list()
    return found
