"""The errors of the package: twelve kinds, all directly under NinthError.

Each keeps the very values that it was made with, so that a caller can see what was wrong.
"""


class NinthError(ValueError):
    """What all errors of the package stand under; it is never raised itself."""


class InvalidNumber(NinthError):
    """A value that is not the number that is asked for."""

    def __init__(self, value):
        self.value = value


class InvalidGroup(NinthError):
    """A table that is no group: which part of it fails, and where."""

    def __init__(self, part, place):
        self.part = part
        self.place = place


class InvalidSubset(NinthError):
    """A value that is not the subset that is asked for."""

    def __init__(self, value):
        self.value = value


class InvalidMap(NinthError):
    """A value that is not the map that is asked for."""

    def __init__(self, value):
        self.value = value


class InvalidSamples(NinthError):
    """A value that is not the samples that are asked for."""

    def __init__(self, value):
        self.value = value


class InvalidTable(NinthError):
    """A value that is not the table that is asked for."""

    def __init__(self, value):
        self.value = value


class InvalidText(NinthError):
    """A text that is not of its form, and the place of its first wrong line."""

    def __init__(self, text, at):
        self.text = text
        self.at = at


class InvalidLine(NinthError):
    """A line that is not of its form, and the place of its first wrong word."""

    def __init__(self, line, at):
        self.line = line
        self.at = at


class UnknownWord(NinthError):
    """A word that begins a line and is none of the known ones."""

    def __init__(self, word):
        self.word = word


class Undefined(NinthError):
    """What was asked is not there for these values."""

    def __init__(self, what):
        self.what = what


class TooMany(NinthError):
    """There would be more of something than the package takes on."""

    def __init__(self, what):
        self.what = what


class NothingToUndo(NinthError):
    """There is nothing that could be undone or done again."""

    def __init__(self, word):
        self.word = word
