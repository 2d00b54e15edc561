"""The errors of the package. Each keeps its one argument in `what`."""


class Refused(ValueError):
    """The base class of all others."""

    def __init__(self, what):
        self.what = what


class BadMap(Refused):
    """The argument is not a map; what: -1 to -3 for its parts, or the index of the first bad road."""


class BadWish(Refused):
    """The wished places of a map are not right; what: -1, or the index of the first bad one."""


class BadPlace(Refused):
    """The map has no such place; what: the argument."""


class BadNumber(Refused):
    """The number is out of range; what: the number, or its place in a text."""


class BadLot(Refused):
    """The argument is not a lot of places of the map; what: -1."""


class BadFree(Refused):
    """The argument is not a lot of unwished places of the map; what: -1."""


class BadStanding(Refused):
    """The argument is not a standing; what: -1, or the index of the first thread at no place."""


class TooMany(Refused):
    """There are more things than allowed; what: how many, or a place in a text."""


class Twice(Refused):
    """Something is there already or is told a second time; what: 0, or a place in a text."""


class NoRoad(Refused):
    """The map has no such road; what: 0."""


class NotWished(Refused):
    """The place is not wished; what: 0."""


class BadPlay(Refused):
    """The argument is not a play; what: -1, or the index of the first entry that is not permitted."""


class BadEvents(Refused):
    """The argument is not a tuple of events; what: -1."""


class BadWarden(Refused):
    """The argument is not a warden; what: -1, or the index of the first bad entry."""


class NoBound(Refused):
    """There is no bound from where the threads stand; what: 0."""


class Over(Refused):
    """The session is over; what: 0."""


class BadThread(Refused):
    """There is no thread of this number; what: the argument."""


class BadRoad(Refused):
    """No road leads to this place from where the thread is; what: the argument."""


class Unlike(Refused):
    """The maps do not have as many places; what: the number of places of the new one."""


class Running(Refused):
    """A thread has gone on since the last stop; what: 0."""


class BadProgram(Refused):
    """The argument is not a program; what: -1 to -5 for the whole, or the index of the first bad row."""


class BadCell(Refused):
    """The program has no cell of this number; what: the argument."""


class BadInputs(Refused):
    """The inputs do not fit the threads; what: -1, or the index of the first bad item."""


class Ended(Refused):
    """The thread has ended; what: the number of the thread."""


class BadWeave(Refused):
    """The argument is not a tuple of threads; what: -1, or the index of the first bad item."""


class BadText(Refused):
    """The text is not the written form of anything; what: -1, or the place of the first fault."""


class NoName(Refused):
    """There is no such name; what: its place in the text."""


class NoPlace(Refused):
    """There is no such place; what: where it stands in the text."""


class BadName(Refused):
    """The argument is not a name; what: the argument."""


class NothingToUndo(Refused):
    """The hand has nothing to undo; what: the hand."""


class NothingToRedo(Refused):
    """The hand has nothing to redo; what: the hand."""
