"""The errors of the package; the parameters of each are its attributes."""


class ReadError(Exception):
    """The base class of all errors of this package."""


class BadFormat(ReadError):
    """Values that make no format."""

    def __init__(self, part):
        self.part = part


class BadWord(ReadError):
    """A value that is no word, or not one that may stand here."""

    def __init__(self, word):
        self.word = word


class BadRecord(ReadError):
    """A value that is no record, or not one of a format."""

    def __init__(self, record):
        self.record = record


class InvalidText(ReadError):
    """A value that is the text of no format."""

    def __init__(self, line):
        self.line = line


class OtherLetters(ReadError):
    """Two formats that do not have the same letters."""

    def __init__(self):
        pass


class NoReading(ReadError):
    """A word that no text has as its letters."""

    def __init__(self, word):
        self.word = word


class TwoReadings(ReadError):
    """Two unlike texts with the same letters."""

    def __init__(self, one, other):
        self.one = one
        self.other = other


class NotEnough(ReadError):
    """Two numbers of letters that are not enough for a format."""

    def __init__(self, ahead, behind):
        self.ahead = ahead
        self.behind = behind


class NotSure(ReadError):
    """A place of which a worker is not sure."""

    def __init__(self, place):
        self.place = place


class NoBook(ReadError):
    """Lengths with which no book can be entered anywhere."""

    def __init__(self, length):
        self.length = length


class EvenLength(ReadError):
    """A length that is even where it must be odd."""

    def __init__(self, length):
        self.length = length


class NameTaken(ReadError):
    """The name of a reader that is there already."""

    def __init__(self, name):
        self.name = name


class UnknownName(ReadError):
    """The name of no reader that is there."""

    def __init__(self, name):
        self.name = name
