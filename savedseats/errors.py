"""The errors of the program; each holds what it is passed, as it is passed."""


class SeatError(ValueError):
    """The base class of all errors of this program."""


class BadPlaces(SeatError):
    """A web has too few or too many places."""

    def __init__(self, count):
        self.count = count


class BadEdges(SeatError):
    """A web has too many edges."""

    def __init__(self, count):
        self.count = count


class BadEdge(SeatError):
    """An edge is no pair of places, or equal to an earlier one."""

    def __init__(self, index):
        self.index = index


class BadEntry(SeatError):
    """The entry of a web is no place."""

    def __init__(self, place):
        self.place = place


class NoExits(SeatError):
    """A web has no exits."""


class BadExit(SeatError):
    """An exit is no place, or a place is no exit."""

    def __init__(self, place):
        self.place = place


class Idle(SeatError):
    """A place lies on no whole way."""

    def __init__(self, place):
        self.place = place


class NoGate(SeatError):
    """A web has no gate of this number."""

    def __init__(self, number):
        self.number = number


class BadWay(SeatError):
    """A row has no edge at this index, or one that does not begin where the row is."""

    def __init__(self, index):
        self.index = index


class NotWhole(SeatError):
    """A way ends at a place that is no exit."""

    def __init__(self, place):
        self.place = place


class BadPlace(SeatError):
    """A web has no place of this number, or no web has."""

    def __init__(self, number):
        self.number = number


class BadMark(SeatError):
    """No web has a gate of this number, so it has no mark."""

    def __init__(self, number):
        self.number = number


class TwoMarks(SeatError):
    """A gate has both a save and a back."""

    def __init__(self, number):
        self.number = number


class BadLength(SeatError):
    """There are not as many prices as gates."""

    def __init__(self, count):
        self.count = count


class BadPrice(SeatError):
    """A gate has something that is no price."""

    def __init__(self, gate):
        self.gate = gate


class BadWord(SeatError):
    """A word is neither save nor back."""

    def __init__(self, word):
        self.word = word


class OtherWeb(SeatError):
    """Prices are for another web."""


class TooMany(SeatError):
    """A web has too many places for all its lots to be tried."""

    def __init__(self, count):
        self.count = count


class Barred(SeatError):
    """The cost of the first (0) or the second (1) of two lots is None."""

    def __init__(self, index):
        self.index = index


class BadSeats(SeatError):
    """A task has too few or too many seats."""

    def __init__(self, count):
        self.count = count


class BadName(SeatError):
    """A seat has a name that is none."""

    def __init__(self, name):
        self.name = name


class NoSeat(SeatError):
    """A task has no seat of this name."""

    def __init__(self, name):
        self.name = name


class BadEdit(SeatError):
    """An edit has none of the forms of edits."""

    def __init__(self, change):
        self.change = change


class BadMenu(SeatError):
    """A menu has too many edits."""

    def __init__(self, count):
        self.count = count


class TwiceInMenu(SeatError):
    """An edit of a menu is equal to an earlier one."""

    def __init__(self, index):
        self.index = index


class BadDeed(SeatError):
    """A deed has none of the forms of deeds."""

    def __init__(self, index):
        self.index = index


class BadLine(SeatError):
    """A line of a text has another form than it must have."""

    def __init__(self, line):
        self.line = line
