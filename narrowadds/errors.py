"""The errors of the package, all of them directly under AddsError.

Each keeps the very thing that it was made with, not a copy of it.
"""


class AddsError(ValueError):
    """Any error that this package raises."""


class Unfit(AddsError):
    """What was asked cannot be had, or an argument does not fit."""


class BadText(AddsError):
    """A value is not the text of what was to be read from it."""


class BadMachine(AddsError):
    """A value is no machine; error tells what is wrong with it."""

    def __init__(self, error):
        self.error = error


class BadProgram(AddsError):
    """A value is no program of the machine; error tells what is wrong with it."""

    def __init__(self, error):
        self.error = error


class Barred(AddsError):
    """No program does the table, or no table grants the wish; paper tells why."""

    def __init__(self, paper):
        self.paper = paper


class Apart(AddsError):
    """No program leads the one contents to the other; paper tells why."""

    def __init__(self, paper):
        self.paper = paper


class TooMany(AddsError):
    """The shelf has as many names as it may have: limit."""

    def __init__(self, limit):
        self.limit = limit


class NoName(AddsError):
    """The shelf does not have what was given as a name."""

    def __init__(self, given):
        self.given = given


class Taken(AddsError):
    """The shelf has the given name already."""

    def __init__(self, given):
        self.given = given


class BadBatch(AddsError):
    """A value is no batch of edits."""


class Rejected(AddsError):
    """The edit at this place of a batch raised an error."""

    def __init__(self, place):
        self.place = place


class TooManyEdits(AddsError):
    """As many edits stand as may stand."""


class NothingToUndo(AddsError):
    """No edit stands that could be taken back."""


class NothingToRedo(AddsError):
    """No edit was taken back that could be done again."""


class NoVersion(AddsError):
    """What was given is no version of the bench."""

    def __init__(self, given):
        self.given = given


class BadLog(AddsError):
    """The line or the edit at this place of a log cannot be taken."""

    def __init__(self, place):
        self.place = place
