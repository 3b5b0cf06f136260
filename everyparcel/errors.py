"""The errors of the program (point 5)."""


class ParcelError(ValueError):
    """The base class of all errors of the program."""


class Invalid(ParcelError):
    """An argument breaks a condition of its class or function; `what` is the word for it."""

    def __init__(self, what):
        self.what = what


class Unknown(ParcelError):
    """A name or a ticket does not exist where it is looked up."""

    def __init__(self, name):
        self.name = name


class TooMany(ParcelError):
    """More standings or courses than the limit, at the tick or, for courses, at the tick None."""

    def __init__(self, limit, tick):
        self.limit = limit
        self.tick = tick


class Contradiction(ParcelError):
    """No course of the world fits the book."""


class BadManifest(ParcelError):
    """The text is no manifest."""

    def __init__(self, text):
        self.text = text


class BadLine(ParcelError):
    """The line of that number, counted from 1, is the first wrong one of a text."""

    def __init__(self, line):
        self.line = line


class Late(ParcelError):
    """A parcel would be taken in at a tick that is known already; `tick` is the last such one."""

    def __init__(self, tick):
        self.tick = tick


class Refused(ParcelError):
    """A promise is not given: the days that would be, and a course that breaks it."""

    def __init__(self, days, course):
        self.days = days
        self.course = course
