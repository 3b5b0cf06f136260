"""The steps of a world, kept for each standing, since many books and wishes ask for the same ones."""

from everyparcel.scenes import all_played
from everyparcel.standings import first_standing


class Step:
    """One thing that can happen at a tick: the standings before and after it, its events, and its part of a course."""

    def __init__(self, before, scene):
        self.before = before
        self.after = scene.standing()
        self.events = tuple(scene.events)
        self.late = tuple(scene.late)
        self.lost = tuple(scene.lost)


class Stepper:
    """Tells the steps of one world."""

    def __init__(self, world):
        self._world = world
        self._kept = {}

    def steps_from(self, standing, tick):
        """All steps from the standing at the tick, in the order of their choices."""
        key = (tick, standing)
        if key not in self._kept:
            self._kept[key] = [Step(standing, scene) for scene in all_played(self._world, standing, tick)]
        return self._kept[key]


def walks(world):
    """The steps of all courses of the world, course by course in their order."""
    stepper = Stepper(world)
    waiting = [()]
    while waiting:
        steps = waiting.pop()
        if len(steps) == len(world.ticks):
            yield steps
        else:
            standing = steps[-1].after if steps else first_standing(world)
            # What is put there last is taken first: the steps go in from behind.
            for step in stepper.steps_from(standing, world.ticks[len(steps)])[::-1]:
                waiting.append(steps + (step,))
