"""At which ticks something is to be done, so that a tick need not look at everything that the world has."""


class Agenda:
    """What is to be done at which ticks, by the kind of the event that it makes."""

    def __init__(self):
        self._entries = {}

    def enter(self, kind, ticks, thing):
        """Enters a site, a trip, a closing or a parcel for that kind of event at each of the ticks."""
        for tick in ticks:
            self._entries.setdefault((kind, tick), []).append(thing)

    def told(self, kind, tick):
        """What is entered for that kind of event at the tick, in the order in which it was entered."""
        return list(self._entries.get((kind, tick), []))

    def all_ticks(self):
        """The ascending list of the ticks for which something is entered."""
        return sorted(set([tick for kind, tick in self._entries]))
