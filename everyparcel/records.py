"""Records of what was scanned (point 55)."""

from everyparcel.errors import Invalid

# What a record of each kind names beside its unit.
WHERES = {
    "taken": "site", "packed": "closing", "loaded": "trip", "landed": "site", "found": "site", "emptied": "site",
    "cleared": "site", "out": "site", "seen": "site", "aboard": "trip",
}
# The records of these kinds tell the kind of a position; all others are events.
POSITIONS = {"seen": "at", "aboard": "on"}


def record_house(network, record):
    """The house that made the record."""
    tick, kind, _, where = record
    if kind not in WHERES or tick < 0:
        raise Invalid("record")
    return network.house_of(WHERES[kind], where)


def check_record(world, record):
    """Raises an error if the record is none that can be looked up in the world."""
    record_house(world.network, record)
    world.number(record[2])


def happened(world, run, record):
    """Whether the record is true in the run."""
    check_record(world, record)
    tick, kind, unit, where = record
    if kind in POSITIONS:
        return run.position(unit, tick) == (POSITIONS[kind], where)
    return record in run.events
