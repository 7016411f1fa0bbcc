"""The exceptions: three bases, and the classes directly below them."""


class PlaceError(ValueError):
    """The base of the exceptions for invalid arguments."""


class MissingError(KeyError):
    """The base of the exceptions for unknown names and items."""


class StateError(LookupError):
    """The base of the exceptions for operations that are not possible now."""


class InvalidInteger(PlaceError):
    """Tells of a value that is no integer, or none within the bounds."""

    def __init__(self, value):
        self.value = value


class InvalidChar(PlaceError):
    """Tells of a value that is no character."""

    def __init__(self, value):
        self.value = value


class InvalidChars(PlaceError):
    """Tells of a value that is no list of characters."""

    def __init__(self, value):
        self.value = value


class InvalidText(PlaceError):
    """Tells of a value that is no Text."""

    def __init__(self, value):
        self.value = value


class InvalidKind(PlaceError):
    """Tells of a value that is no kind."""

    def __init__(self, value):
        self.value = value


class MidChar(PlaceError):
    """Tells of a number within a character, and of the numbers before and after this character."""

    def __init__(self, number, start, end):
        self.number = number
        self.start = start
        self.end = end


class BadPlace(PlaceError):
    """Tells of a number or index that is no place."""

    def __init__(self, number):
        self.number = number


class BadSequence(PlaceError):
    """Tells of the index up to which no good list begins so."""

    def __init__(self, index):
        self.index = index


class InvalidBytes(PlaceError):
    """Tells of a value that is no list of bytes."""

    def __init__(self, value):
        self.value = value


class InvalidUnits(PlaceError):
    """Tells of a value that is no list of units."""

    def __init__(self, value):
        self.value = value


class InvalidDelta(PlaceError):
    """Tells of a value that is no Delta."""

    def __init__(self, value):
        self.value = value


class InvalidRows(PlaceError):
    """Tells of a value that is no list of rows."""

    def __init__(self, value):
        self.value = value


class InvalidRow(PlaceError):
    """Tells of an item that is no row."""

    def __init__(self, value):
        self.value = value


class BadRow(PlaceError):
    """Tells of the row that does not end at a place of the text."""

    def __init__(self, index):
        self.index = index


class InvalidEdit(PlaceError):
    """Tells of an item that is no edit."""

    def __init__(self, value):
        self.value = value


class InvalidEdits(PlaceError):
    """Tells of a value that is no list of edits."""

    def __init__(self, value):
        self.value = value


class Overlap(PlaceError):
    """Tells of the edit that may not stand beside an earlier one."""

    def __init__(self, index):
        self.index = index


class InvalidClaim(PlaceError):
    """Tells of an item that is no row of claims."""

    def __init__(self, value):
        self.value = value


class InvalidClaims(PlaceError):
    """Tells of a value that is no list of claims."""

    def __init__(self, value):
        self.value = value


class InvalidIndex(PlaceError):
    """Tells of a value that is no Index."""

    def __init__(self, value):
        self.value = value


class InvalidServer(PlaceError):
    """Tells of a value that is no Server."""

    def __init__(self, value):
        self.value = value


class InvalidCompany(PlaceError):
    """Tells of a value that is no Company."""

    def __init__(self, value):
        self.value = value


class InvalidName(PlaceError):
    """Tells of a value that is no name."""

    def __init__(self, value):
        self.value = value


class DuplicateName(PlaceError):
    """Tells of a name that is taken."""

    def __init__(self, label):
        self.label = label


class InvalidVersion(PlaceError):
    """Tells of a value that is no number of a version."""

    def __init__(self, value):
        self.value = value


class InvalidMessage(PlaceError):
    """Tells of a value that is no message, or none that can come now."""

    def __init__(self, value):
        self.value = value


class InvalidString(PlaceError):
    """Tells of a value that is no string."""

    def __init__(self, value):
        self.value = value


class InvalidLine(PlaceError):
    """Tells of the first line that cannot stand there."""

    def __init__(self, index):
        self.index = index


class InvalidCommand(PlaceError):
    """Tells of a value that is no command."""

    def __init__(self, value):
        self.value = value


class Mismatch(PlaceError):
    """Tells of a value that does not fit to what it is used with."""

    def __init__(self, value):
        self.value = value


class InvalidFlag(PlaceError):
    """Tells of a value that is neither True nor False."""

    def __init__(self, value):
        self.value = value


class InvalidCounts(PlaceError):
    """Tells of a value that is no row of counts of a text."""

    def __init__(self, value):
        self.value = value


class UnknownName(MissingError):
    """Tells of a name that no program has."""

    def __init__(self, label):
        self.label = label


class UnknownMark(MissingError):
    """Tells of a name that no mark has."""

    def __init__(self, label):
        self.label = label


class NothingToDeliver(StateError):
    """Tells of a program whose queue is empty."""

    def __init__(self, label):
        self.label = label


class NothingToUndo(StateError):
    """Tells that no change is left to be taken back."""


class Closed(StateError):
    """Tells that the reader is closed."""


class NoDelta(StateError):
    """Tells that there is no delta to be merged."""
