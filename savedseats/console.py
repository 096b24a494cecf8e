"""The console: lines of commands at a table, and one line of answer to each."""

from savedseats.errors import BadLine, SeatError
from savedseats.lots import Lot
from savedseats.onway import most_saves
from savedseats.prices import Prices
from savedseats.table import Table, greatest_best
from savedseats.tasks import Task
from savedseats.texts import are_numerals, is_numeral, is_price_word, numbers_in, price_in, read_placing, read_web
from savedseats.verdicts import judge

OK = "ok"
NOTHING = "nothing"
NO_NUMBER = "x"
EMPTY = "empty"
ENDLESS = "endless"
RIGHT = "right"
WRONG = "wrong"
ERROR = "error "
FIRST_SEAT = "a"
FIRST_PRICE = 1


class Desk:
    """What the console has ahead of a line: a table, or None."""

    def __init__(self):
        self.table = None


def check_form(right):
    """Raise an error if a line does not have the form of its command."""
    if not right:
        # Each command is one line.
        raise BadLine(1)


def begin_web(desk, words):
    """web LINE / LINE / .."""
    web = read_web(" ".join(words).replace(" / ", "\n"))
    row = [FIRST_PRICE] * web.gates
    desk.table = Table(Task(web, {FIRST_SEAT: Lot([])}, Prices(web, row, row)))
    return OK


def put_use(desk, words):
    """use NAME P"""
    return edit_uses(desk, "use", words)


def free_use(desk, words):
    """free NAME P"""
    return edit_uses(desk, "free", words)


def edit_uses(desk, kind, words):
    """Put a place into the uses of a seat, or take it out."""
    check_form(len(words) == 2 and is_numeral(words[1]))
    desk.table.edit((kind, words[0], int(words[1])))
    return OK


def change_price(desk, words):
    """price G WORD PRICE"""
    check_form(len(words) == 3 and is_numeral(words[0]) and is_price_word(words[2]))
    desk.table.edit(("price", int(words[0]), words[1], price_in(words[2])))
    return OK


def set_uses(desk, words):
    """set NAME P1 P2 .."""
    check_form(len(words) >= 1 and are_numerals(words[1:]))
    desk.table[words[0]] = numbers_in(words[1:])
    return OK


def undo_deed(desk, words):
    """undo"""
    check_form(len(words) == 0)
    return OK if desk.table.undo() else NOTHING


def tell_total(desk, words):
    """total"""
    check_form(len(words) == 0)
    total = desk.table.total()
    return NO_NUMBER if total is None else str(total)


def lot_named(desk, words):
    """The greatest best lot of the seat that is the one word, or None if there is none."""
    check_form(len(words) == 1)
    task = desk.table.task
    return greatest_best(task.web, task.uses(words[0]), task.prices)


def tell_lot(desk, words):
    """lot NAME"""
    lot = lot_named(desk, words)
    if lot is None:
        return NO_NUMBER
    if len(lot) == 0:
        return EMPTY
    return " ".join([str(place) for place in lot])


def tell_judge(desk, words):
    """judge NAME MARKS"""
    check_form(len(words) >= 1)
    placing = read_placing(" ".join(words[1:]))
    task = desk.table.task
    verdict = judge(task.web, task.uses(words[0]), placing)
    return RIGHT if verdict.right else WRONG


def tell_most(desk, words):
    """most NAME"""
    lot = lot_named(desk, words)
    if lot is None:
        return NO_NUMBER
    number = most_saves(desk.table.task.web, lot).number
    return ENDLESS if number is None else str(number)


COMMANDS = {
    "web": begin_web,
    "use": put_use,
    "free": free_use,
    "price": change_price,
    "set": set_uses,
    "undo": undo_deed,
    "total": tell_total,
    "lot": tell_lot,
    "judge": tell_judge,
    "most": tell_most,
}


def console(lines):
    """The list of the answer lines to a list of command lines."""
    desk = Desk()
    answers = []
    for line in lines:
        answers.append(answer(desk, line))
    return answers


def answer(desk, line):
    """The answer line to a command line."""
    words = line.split(" ")
    if words[0] not in COMMANDS:
        return ERROR + "BadLine"
    if words[0] != "web" and desk.table is None:
        return ERROR + "NoTable"
    command = COMMANDS[words[0]]
    try:
        check_form("" not in words)
        return command(desk, words[1:])
    except SeatError as error:
        return ERROR + error.__class__.__name__
