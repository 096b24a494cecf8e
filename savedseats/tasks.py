"""Tasks: webs with seats and prices, the edits that change them, and the sets of edits that mend them."""

from savedseats.checks import check_prices, is_below, is_number
from savedseats.errors import BadEdit, BadMenu, BadName, BadPlace, BadSeats, NoSeat, TwiceInMenu
from savedseats.leastcost import least
from savedseats.lots import Lot
from savedseats.prices import added

MOST_SEATS = 4
MOST_LETTERS = 8
LETTERS = "abcdefghijklmnopqrstuvwxyz"
MOST_EDITS = 6
USE = "use"
FREE = "free"
PRICE = "price"


class Task:
    """A web with seats, each with its uses, and with prices."""

    def __init__(self, web, seats, prices):
        check_prices(web, prices)
        if not 1 <= len(seats) <= MOST_SEATS:
            raise BadSeats(len(seats))
        names = sorted(set(seats))
        for name in names:
            if not is_name(name):
                raise BadName(name)
        self.web = web
        self.seats = {name: uses_of(web, seats[name]) for name in names}
        self.prices = prices

    def __eq__(self, other):
        return (
            isinstance(other, Task)
            and self.web == other.web
            and self.seats == other.seats
            and self.prices == other.prices
        )

    def uses(self, name):
        """The uses of a seat, a lot."""
        return seat_of(self.seats, name)

    def total(self):
        """The sum of the least costs of the seats, or None."""
        return added([least(self.web, self.seats[name], self.prices).cost for name in self.seats])


def is_name(value):
    """Whether the value is the name of a seat."""
    if not isinstance(value, str) or not 1 <= len(value) <= MOST_LETTERS:
        return False
    return all([letter in LETTERS for letter in value])


def uses_of(web, places):
    """The lot of a list, tuple or lot of places; raises an error for the least one that the web does not have."""
    numbers = list(places)
    for number in numbers:
        if not is_number(number):
            raise BadPlace(number)
    for number in sorted(set(numbers)):
        if not is_below(number, web.places):
            raise BadPlace(number)
    return Lot(numbers)


def seat_of(seats, name):
    """The uses of a seat by its name."""
    if name not in seats:
        raise NoSeat(name)
    return seats[name]


def edited(task, edit):
    """The task that an edit of a task describes."""
    parts = edit_parts(edit)
    if parts[0] == PRICE:
        prices = task.prices.with_price(parts[1], parts[2], parts[3])
        return Task(task.web, task.seats, prices)
    return with_uses(task, parts[1], changed_uses(task, parts))


def edit_parts(edit):
    """The parts of an edit, as a tuple; raises an error if it has none of the forms."""
    if not isinstance(edit, (list, tuple)):
        raise BadEdit(edit)
    parts = tuple(edit)
    if len(parts) == 3 and parts[0] in (USE, FREE):
        return parts
    if len(parts) == 4 and parts[0] == PRICE:
        return parts
    raise BadEdit(parts)


def changed_uses(task, parts):
    """The uses of a seat behind an edit that puts in a place or takes it out."""
    word, name, place = parts
    uses = task.uses(name)
    one = uses_of(task.web, [place])
    if word == USE:
        return uses | one
    return uses - one


def with_uses(task, name, uses):
    """The task with other uses of a seat."""
    seats = dict(task.seats)
    seats[name] = uses
    return Task(task.web, seats, task.prices)


def mending(task, menu, bound):
    """The tuple of all sets of edits of a menu that mend a task for a bound, by size and then ascending."""
    edits = check_menu(task, menu)
    found = []
    for row in sets_below(len(edits)):
        # Where two edits clash, the set without the earlier one has the same total, so a set with both never mends.
        if not any([has_all(row, numbers) for numbers in found]):
            total = total_behind(task, [edits[number] for number in row])
            if total is not None and total <= bound:
                found.append(row)
    return tuple(found)


def check_menu(task, menu):
    """The list of the edits of a menu, as tuples; raises an error for the first wrong one."""
    if len(menu) > MOST_EDITS:
        raise BadMenu(len(menu))
    for edit in menu:
        edited(task, edit)
    edits = [tuple(edit) for edit in menu]
    for index, edit in enumerate(edits):
        if edit in edits[:index]:
            raise TwiceInMenu(index)
    return edits


def sets_below(count):
    """The list of all ascending tuples of numbers below a count, by size and then ascending."""
    found = [()]
    level = [()]
    for _ in range(count):
        level = [row + (number,) for row in level for number in range(count) if row == () or number > row[-1]]
        found = found + level
    return found


def has_all(row, numbers):
    """Whether all the numbers are in the row."""
    return all([number in row for number in numbers])


def total_behind(task, edits):
    """The total of a task behind some edits."""
    for edit in edits:
        task = edited(task, edit)
    return task.total()
