"""Prices of saves and backs at the gates of a web, and the costs of lots."""

from savedseats.checks import check_gate, check_lot, check_prices, is_below
from savedseats.errors import BadLength, BadPrice, BadWord
from savedseats.lots import marked_gates

MOST_PRICE = 100000
SAVE = "save"
BACK = "back"
WORDS = (SAVE, BACK)


class Prices:
    """A price of a save and one of a back for each gate of a web."""

    def __init__(self, web, saves, backs):
        for row in (saves, backs):
            if len(row) != web.gates:
                raise BadLength(len(row))
        for row in (saves, backs):
            check_row(row)
        self.web = web
        self.saves = tuple(saves)
        self.backs = tuple(backs)

    def __eq__(self, other):
        return (
            isinstance(other, Prices)
            and self.web == other.web
            and self.saves == other.saves
            and self.backs == other.backs
        )

    def __getitem__(self, at):
        gate, word = at
        check_gate(self.web, gate)
        check_word(word)
        return price_at(self, gate, word)

    def __iter__(self):
        raise TypeError("prices are not iterated over")

    def __add__(self, other):
        if not isinstance(other, Prices):
            return NotImplemented
        check_prices(self.web, other)
        saves = [added([first, second]) for first, second in zip(self.saves, other.saves)]
        backs = [added([first, second]) for first, second in zip(self.backs, other.backs)]
        return Prices(self.web, saves, backs)

    def with_price(self, gate, word, price):
        """Prices with one changed."""
        check_gate(self.web, gate)
        check_word(word)
        saves = list(self.saves)
        backs = list(self.backs)
        if word == SAVE:
            saves[gate] = price
        else:
            backs[gate] = price
        return Prices(self.web, saves, backs)


def price_at(prices, gate, word):
    """The price of a gate that there is by one of the words."""
    return prices.saves[gate] if word == SAVE else prices.backs[gate]


def check_row(row):
    """Raise an error for the first gate that has no price in a row of prices."""
    for gate, price in enumerate(row):
        if not is_price(price):
            raise BadPrice(gate)


def is_price(value):
    """Whether the value is a price."""
    return value is None or is_below(value, MOST_PRICE + 1)


def check_word(word):
    """Raise an error if the word is none of the two."""
    if word not in WORDS:
        raise BadWord(word)


def cost(web, lot, prices):
    """The cost of a lot, or None."""
    check_lot(web, lot)
    check_prices(web, prices)
    with_save, with_back = marked_gates(web, lot)
    saves = [prices.saves[gate] for gate in with_save]
    backs = [prices.backs[gate] for gate in with_back]
    return added(saves + backs)


def added(numbers):
    """The sum of a list of numbers, None if one of them is None."""
    if None in numbers:
        return None
    return sum(numbers)


def lesser(first, second):
    """The lesser one of two numbers, where None counts as greater than every number."""
    if first is None:
        return second
    if second is None or first <= second:
        return first
    return second
