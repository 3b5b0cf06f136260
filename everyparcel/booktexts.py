"""The texts of books (point 60)."""

from everyparcel.books import Book, record_order
from everyparcel.errors import BadLine
from everyparcel.network import is_name
from everyparcel.records import WHERES
from everyparcel.spelling import spells_number

# The words with which the lines begin, in the order of the text.
WORDS = ("heard", "record", "struck")


def _line_of(word, record):
    tick, kind, unit, where = record
    return f"{word} {tick} {kind} {unit} {where}\n"


def book_text(book):
    """One line for each entry of the book."""
    lines = [f"heard {house} {tick}\n" for house, tick in book.heard.items()]
    lines.extend([_line_of("record", record) for record in book.records])
    lines.extend([_line_of("struck", record) for record in book.struck])
    return "".join(lines)


def _is_tick(text):
    return spells_number(text, 9)


def _is_ticket(text):
    return spells_number(text, 9) and text != "0"


def _read_heard(parts):
    """The house and its tick, or None if the parts are of another form."""
    if len(parts) != 2 or not is_name(parts[0]) or not _is_tick(parts[1]):
        return None
    return (parts[0], int(parts[1]))


def _read_record(parts):
    """The record, or None if the parts are of another form."""
    if len(parts) != 4:
        return None
    tick, kind, unit, where = parts
    if not _is_tick(tick) or kind not in WHERES or not is_name(where):
        return None
    if _is_ticket(unit):
        return (int(tick), kind, int(unit), where)
    return (int(tick), kind, unit, where) if is_name(unit) else None


def _read_entry(word, parts):
    """What the line of that word and those parts tells, or None if it is not of the form of an entry."""
    if word not in WORDS:
        return None
    return _read_heard(parts) if word == "heard" else _read_record(parts)


def _place_in_text(word, entry):
    """What the order of the lines goes by."""
    if word == "heard":
        return (WORDS.index(word), entry[0])
    return (WORDS.index(word), record_order(entry))


def read_book(text):
    """The book of the text."""
    lines = text.split("\n")
    entries = {word: [] for word in WORDS}
    before = (-1, "")
    for number, line in enumerate(lines[:-1], start=1):
        word, *parts = line.split(" ")
        entry = _read_entry(word, parts)
        if entry is None or _place_in_text(word, entry) <= before:
            raise BadLine(number)
        before = _place_in_text(word, entry)
        entries[word].append(entry)
    # What stands behind the last newline is no line: there is none that ends there.
    if lines[-1] != "":
        raise BadLine(len(lines))
    return Book(dict(entries["heard"]), entries["record"], entries["struck"])
