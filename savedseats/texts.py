"""Texts: how webs, prices and placings are written and read."""

from savedseats.errors import BadLine
from savedseats.lots import Placing
from savedseats.prices import Prices
from savedseats.webs import Web

DIGITS = "0123456789"
MOST_DIGITS = 6
NO_PRICE = "x"
SAVE_SIGN = "+"
BACK_SIGN = "-"


def is_numeral(word):
    """Whether the word is a number of one to six digits without a leading zero."""
    if not 1 <= len(word) <= MOST_DIGITS or not all([sign in DIGITS for sign in word]):
        return False
    return word == "0" or word[0] != "0"


def are_numerals(words):
    """Whether all the words are numbers."""
    return all([is_numeral(word) for word in words])


def numbers_in(words):
    """The list of the numbers that the words write."""
    return [int(word) for word in words]


def is_price_word(word):
    """Whether the word is a number or that for no price."""
    return word == NO_PRICE or is_numeral(word)


def price_in(word):
    """The price that the word writes."""
    return None if word == NO_PRICE else int(word)


def price_word(price):
    """The word that writes a price."""
    return NO_PRICE if price is None else str(price)


def are_ascending(numbers):
    """Whether each number is above the one ahead of it."""
    return all([numbers[index] < numbers[index + 1] for index in range(len(numbers) - 1)])


def write_web(web):
    """The text of a web."""
    words = ["places", str(web.places), "entry", str(web.entry), "exits"] + [str(place) for place in web.exits]
    return "\n".join([" ".join(words)] + [f"{begin} {end}" for begin, end in web.edges])


def read_web(text):
    """The web that a text writes."""
    lines = text.split("\n")
    words = lines[0].split(" ")
    if not is_head(words):
        raise BadLine(1)
    rows = [line.split(" ") for line in lines[1:]]
    for index, row in enumerate(rows):
        if len(row) != 2 or not are_numerals(row):
            raise BadLine(index + 2)
    edges = [numbers_in(row) for row in rows]
    return Web(int(words[1]), edges, int(words[3]), numbers_in(words[5:]))


def is_head(words):
    """Whether these are the words of the first line of a web."""
    if len(words) < 6 or words[0] != "places" or words[2] != "entry" or words[4] != "exits":
        return False
    if not are_numerals([words[1], words[3]]) or not are_numerals(words[5:]):
        return False
    return are_ascending(numbers_in(words[5:]))


def write_prices(prices):
    """The text of prices."""
    lines = []
    for save, back in zip(prices.saves, prices.backs):
        lines.append(price_word(save) + " " + price_word(back))
    return "\n".join(lines)


def read_prices(web, text):
    """The prices for a web that a text writes."""
    rows = [line.split(" ") for line in text.split("\n")]
    for index, row in enumerate(rows):
        if len(row) != 2 or not all([is_price_word(word) for word in row]):
            raise BadLine(index + 1)
    return Prices(web, [price_in(row[0]) for row in rows], [price_in(row[1]) for row in rows])


def write_placing(placing):
    """The text of a placing."""
    gates = sorted(set(placing.saves + placing.backs))
    return " ".join([mark_word(placing, gate) for gate in gates])


def mark_word(placing, gate):
    """The word that writes the mark of a gate."""
    if gate in placing.saves:
        return SAVE_SIGN + str(gate)
    return BACK_SIGN + str(gate)


def read_placing(text):
    """The placing that a text writes."""
    words = text.split(" ") if text else []
    for word in words:
        if word[:1] not in (SAVE_SIGN, BACK_SIGN) or not is_numeral(word[1:]):
            raise BadLine(1)
    if not are_ascending([int(word[1:]) for word in words]):
        raise BadLine(1)
    saves = [int(word[1:]) for word in words if word[0] == SAVE_SIGN]
    backs = [int(word[1:]) for word in words if word[0] == BACK_SIGN]
    return Placing(saves, backs)
