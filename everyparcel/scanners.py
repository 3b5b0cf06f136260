"""Which sites need scanners that tell where all parcels are (points 70 and 71)."""

from itertools import combinations

from everyparcel.books import in_order
from everyparcel.errors import Invalid, TooMany
from everyparcel.runs import Run, course_of
from everyparcel.standings import MOST, position
from everyparcel.stepping import walks


class Play:
    """A course with the track of the parcels in it, and its scans at each site."""

    def __init__(self, world, walk):
        self.course = course_of(world, walk)
        self.track = tuple([position(world, step.after, ticket) for step in walk for ticket in world.tickets])
        scans = {site.name: [] for site in world.network.sites}
        for event in [event for step in walk for event in step.events if event[1] == "landed"]:
            scans[event[3]].append(event)
        # Within a tick the order may differ from course to course, and does not count.
        self._scans = {site: tuple(in_order(events)) for site, events in scans.items()}

    def scans_at(self, sites):
        """The scans of the course at each of the sites."""
        return tuple([self._scans[site] for site in sites])


def _plays(world, most):
    """The plays of all courses of the world, in their order."""
    found = []
    for walk in walks(world):
        if len(found) == most:
            raise TooMany(most, None)
        found.append(walk)
    return [Play(world, walk) for walk in found]


def _site_names(world):
    return [site.name for site in world.network.sites]


def _first_blind(plays, sites):
    """The first pair of plays that have the same scans at the sites, but another track, or None."""
    firsts = {}
    others = {}
    for play in plays:
        scans = play.scans_at(sites)
        first = firsts.setdefault(scans, play)
        if first.track != play.track:
            others.setdefault(scans, play)
    for scans, first in firsts.items():
        if scans in others:
            return (first, others[scans])
    return None


def _same_sites(sites, one, other):
    """Those of the sites at which both plays have the same scans."""
    return [site for site in sites if one.scans_at([site]) == other.scans_at([site])]


def _covers(lists, sites):
    """Whether one of the lists has all of the sites."""
    return any([all([site in some for site in sites]) for some in lists])


def blind_pair(world, sites, *, most=MOST):
    """The first two courses that have the same scans at the sites, but not the same positions, or None."""
    for site in sites:
        world.network.site(site)
    pair = _first_blind(_plays(world, most), sites)
    return None if pair is None else (pair[0].course, pair[1].course)


def fewest_scanners(world, *, most=MOST):
    """The least list of as few sites as possible that tell all, or None."""
    return scanner_paper(world, most=most)[0]


def scanner_paper(world, *, most=MOST):
    """The sites of fewest_scanners, and pairs of courses that show that there are no fewer ones."""
    plays = _plays(world, most)
    names = _site_names(world)
    pair = _first_blind(plays, names)
    if pair is not None:
        return (None, [(pair[0].course, pair[1].course)])
    pairs = []
    told_apart = []
    for size in range(len(names)):
        for sites in combinations(names, size):
            # A pair that is blind here already needs no other one beside it.
            if not _covers(told_apart, sites):
                pair = _first_blind(plays, sites)
                if pair is None:
                    return (list(sites), pairs)
                told_apart.append(_same_sites(names, pair[0], pair[1]))
                pairs.append((pair[0].course, pair[1].course))
    return (names, pairs)


def _play_of(world, plays, course):
    """The play of a course in any form, or None if it is no course of the world."""
    try:
        told = Run(world, course)
    except Invalid:
        return None
    return plays[told.course]


def _blind_sites(world, plays, pair):
    """The sites at which a pair of courses has the same scans, or None if it is no pair that shows anything."""
    one, other = _play_of(world, plays, pair[0]), _play_of(world, plays, pair[1])
    if one is None or other is None or one.track == other.track:
        return None
    return _same_sites(_site_names(world), one, other)


def check_scanners(world, sites, pairs, *, most=MOST):
    """Whether the sites tell all and the pairs show that no fewer sites do, or that all sites do not."""
    plays = _plays(world, most)
    names = _site_names(world)
    named = {play.course: play for play in plays}
    blind = [_blind_sites(world, named, pair) for pair in pairs]
    if None in blind:
        return False
    if sites is None:
        return _covers(blind, names)
    if list(sites) != [name for name in names if name in sites] or _first_blind(plays, sites) is not None:
        return False
    # Of sets of fewer sites those that lack just one of that number are enough: the others are parts of them.
    fewer = [] if len(sites) == 0 else list(combinations(names, len(sites[1:])))
    return all([_covers(blind, some) for some in fewer])
