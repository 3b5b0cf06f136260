"""What a book and a wish ask of standings and of steps (points 58, 61 and 63)."""

from everyparcel.records import POSITIONS, check_record
from everyparcel.standings import first_standing, position
from everyparcel.truths import is_sure, sure_ticks


def check_wish(world, wish):
    """Raises Unknown if the wish is about a unit that the world does not have, or about a bag that is late."""
    if wish is not None and wish[0] == "late":
        world.parcel(wish[1])
    elif wish is not None:
        world.number(wish[1])


def is_met(wish, place):
    """Whether a unit that is at the place at the right time meets the wish."""
    return place[0] != "out" if wish[0] == "late" else place == wish[3]


class Sieve:
    """Lets through what fits a book and meets a wish, tick by tick."""

    def __init__(self, world, stepper, book, wish):
        check_wish(world, wish)
        self._valid = {record: True for record in book.valid}
        for record in self._valid:
            check_record(world, record)
        self._world = world
        self._stepper = stepper
        self._wish = wish
        self._wish_layer = None if wish is None else world.layer_of(wish[2])
        self._sure = sure_ticks(world.network, book.heard)
        self._places = {}
        self._events = {}
        for record in self._valid:
            self._enter(record)

    def _enter(self, record):
        """Enters the record at the layer or at the tick of which it tells."""
        tick, kind, unit, where = record
        if kind in POSITIONS:
            number = self._world.layer_of(tick)
            self._places.setdefault(number, []).append((unit, (POSITIONS[kind], where)))
        else:
            self._events.setdefault(tick, []).append(record)

    def beginning(self):
        """The list of the first standing, if it passes at layer 0."""
        ticks = {tick: True for tick in self._world.ticks}
        if not all([tick in ticks for tick in self._events]):
            return []
        first = first_standing(self._world)
        return [first] if self._passes(0, first) else []

    def fitting_steps(self, number, standing):
        """The fitting steps from a standing at the tick of that number whose new standing passes, in their order."""
        tick = self._world.ticks[number - 1]
        steps = [step for step in self._stepper.steps_from(standing, tick) if self._fits(tick, step.events)]
        return [step for step in steps if self._passes(number, step.after)]

    def _passes(self, number, standing):
        """Whether the standing agrees with the positions that are asked for at the layer of that number."""
        for unit, place in self._places.get(number, []):
            if position(self._world, standing, unit) != place:
                return False
        if number != self._wish_layer:
            return True
        return is_met(self._wish, position(self._world, standing, self._wish[1]))

    def _fits(self, tick, events):
        """Whether a step of these events has each event that is known, and no landing that would be known."""
        if not all([record in events for record in self._events.get(tick, [])]):
            return False
        return all([event in self._valid for event in events if is_sure(self._sure, event)])
