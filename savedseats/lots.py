"""Lots of places, placings of saves and backs on gates, and what happens along a way."""

from savedseats.checks import check_lot, check_placing, is_number
from savedseats.errors import BadMark, BadPlace, TwoMarks
from savedseats.ways import steps_of
from savedseats.webs import gate_pairs

SAVED_TWICE = "saved twice"
NOT_SAVED = "not saved"
USED = "used"
LEFT = "left"


class Lot:
    """A set of places, which is a value."""

    def __init__(self, places):
        numbers = list(places)
        for number in numbers:
            if not is_number(number) or number < 0:
                raise BadPlace(number)
        self.places = tuple(sorted(set(numbers)))

    def __eq__(self, other):
        return isinstance(other, Lot) and self.places == other.places

    def __le__(self, other):
        if not isinstance(other, Lot):
            return NotImplemented
        return all([place in other.places for place in self.places])

    def __or__(self, other):
        if not isinstance(other, Lot):
            return NotImplemented
        return Lot(self.places + other.places)

    def __and__(self, other):
        if not isinstance(other, Lot):
            return NotImplemented
        return Lot([place for place in self.places if place in other.places])

    def __sub__(self, other):
        if not isinstance(other, Lot):
            return NotImplemented
        return Lot([place for place in self.places if place not in other.places])

    def __contains__(self, place):
        return place in self.places

    def __len__(self):
        return len(self.places)

    def __iter__(self):
        return iter(self.places)


class Placing:
    """The gates with a save and the gates with a back."""

    def __init__(self, saves, backs):
        with_save = list(saves)
        with_back = list(backs)
        for number in with_save + with_back:
            if not is_number(number) or number < 0:
                raise BadMark(number)
        self.saves = tuple(sorted(set(with_save)))
        self.backs = tuple(sorted(set(with_back)))
        for gate in self.saves:
            if gate in self.backs:
                raise TwoMarks(gate)

    def __eq__(self, other):
        return isinstance(other, Placing) and self.saves == other.saves and self.backs == other.backs

    def __len__(self):
        return len(self.saves + self.backs)


def placing_of(web, lot):
    """The placing of a lot."""
    saves, backs = marked_gates(web, lot)
    return Placing(saves, backs)


def marked_gates(web, lot):
    """The lists of the gates with a save and of those with a back in the placing of a lot."""
    check_lot(web, lot)
    inside = lot.places
    saves = []
    backs = []
    for gate, (begin, end) in enumerate(gate_pairs(web)):
        # OUTSIDE is -1, so it is in no lot.
        if begin in inside:
            if end not in inside:
                backs.append(gate)
        elif end in inside:
            saves.append(gate)
    return saves, backs


def played(web, uses, placing, way):
    """None, or the pair (number of the step, word) of the first fault along a whole way."""
    check_lot(web, uses)
    check_placing(web, placing)
    saved = False
    for number, (kind, at) in enumerate(steps_of(web, way)):
        if kind == "gate":
            fault = gate_fault(placing, saved, at)
            saved = saved_behind(placing, saved, at)
        else:
            fault = place_fault(uses, saved, at)
        if fault is not None:
            return number, fault
    if saved:
        # The last step has the number 2k + 2 for k edges.
        return 2 * len(way) + 3, LEFT
    return None


def gate_fault(placing, saved, gate):
    """The word of the fault at a gate, or None; saved tells whether the seat is saved ahead of it."""
    if saved and gate in placing.saves:
        return SAVED_TWICE
    if not saved and gate in placing.backs:
        return NOT_SAVED
    return None


def saved_behind(placing, saved, gate):
    """Whether the seat is saved behind a gate; saved tells whether it is ahead of it."""
    return gate in placing.saves or (saved and gate not in placing.backs)


def place_fault(uses, saved, place):
    """The word of the fault at a place, or None; saved tells whether the seat is saved there."""
    if place in uses and not saved:
        return USED
    return None
