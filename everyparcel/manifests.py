"""Manifests: the written form of a unit and of what is in it (points 31 to 34)."""

from everyparcel.errors import BadManifest, Invalid, Unknown
from everyparcel.nests import DEEPEST, NOT, Nest, is_bag
from everyparcel.network import is_name
from everyparcel.spelling import spells_number


def _written(nest, unit):
    if not is_bag(unit):
        return str(unit)
    contents = " ".join([_written(nest, part) for part in nest.contents(unit)])
    return f"{unit}({contents})"


def manifest(nest, unit):
    """The manifest of the unit."""
    if nest.rank(unit) is None:
        raise Invalid("manifest")
    return _written(nest, unit)


def _placed(values, place):
    """The pairs (unit, place) of all units of the values, if the values themselves lie at the place."""
    found = []
    waiting = [(value, place) for value in values]
    while waiting:
        value, around = waiting.pop()
        if isinstance(value, tuple):
            name, contents = value
            found.append((name, around))
            waiting.extend([(part, ("in", name)) for part in contents])
        else:
            found.append((value, around))
    return found


def _units(value):
    return [unit for unit, place in _placed([value], NOT)]


def _tickets(value):
    return [unit for unit in _units(value) if not is_bag(unit)]


def _rank(value):
    """The least ticket of a value whose bags are in rank order: there it is the first one."""
    while isinstance(value, tuple):
        value = value[1][0]
    return value


def _word_end(text, at):
    while at < len(text) and text[at] not in "( )":
        at += 1
    return at


def _read_unit(text, at, depth):
    """The value that begins there, with that many bags around it, and where it ends."""
    end = _word_end(text, at)
    word = text[at:end]
    if depth > DEEPEST:
        raise BadManifest(text)
    if text[end:end + 1] == "(" and is_name(word):
        contents, end = _read_contents(text, end + 1, depth + 1)
        return ((word, contents), end)
    # Longer numbers are refused before they are read: Python reads only so many digits.
    if not spells_number(word, 9) or word == "0":
        raise BadManifest(text)
    return (int(word), end)


def _read_contents(text, at, depth):
    """The contents of the bag whose parenthesis was opened there, and where it ends."""
    value, at = _read_unit(text, at, depth)
    contents = [value]
    while text[at:at + 1] == " ":
        value, at = _read_unit(text, at + 1, depth)
        contents.append(value)
    ranks = [_rank(part) for part in contents]
    if text[at:at + 1] != ")" or ranks != sorted(ranks):
        raise BadManifest(text)
    return (contents, at + 1)


def read_manifest(text):
    """The value of the manifest: a ticket, or a tuple of a name and the list of the values in the bag."""
    value, end = _read_unit(text, 0, 0)
    units = _units(value)
    if end < len(text) or len(set(units)) < len(units):
        raise BadManifest(text)
    return value


def nest_of(values, place):
    """The nest of the units of the values, which lie outermost at the place."""
    pairs = _placed(values, place)
    places = dict(pairs)
    if len(places) < len(pairs):
        raise Invalid("nest")
    return Nest(places)


def weight(nest, unit, weights):
    """The sum of the weights of the parcels in the unit."""
    tickets = nest.inside(unit)
    for ticket in tickets:
        if ticket not in weights:
            raise Unknown(ticket)
    return sum([weights[ticket] for ticket in tickets])


def difference(one, other):
    """The ascending list of the tickets that are in exactly one of the values."""
    return sorted(set(_tickets(one)) ^ set(_tickets(other)))
