"""The table: a task that is changed by settings and edits, which can be undone."""

from savedseats.best import best_lots
from savedseats.errors import BadDeed
from savedseats.tasks import Task, edited, seat_of, uses_of, with_uses

SET = "set"
EDIT = "edit"
UNDO = "undo"


class Table:
    """A task as it now is, and the tasks that it was ahead of each setting and edit."""

    def __init__(self, start):
        self.now = copied(start)
        self.past = []

    @property
    def task(self):
        """The task as it now is, a new object."""
        return copied(self.now)

    @property
    def deeds(self):
        """The number of settings and edits that were not undone."""
        return len(self.past)

    def __getitem__(self, name):
        return seat_of(self.now.seats, name)

    def __setitem__(self, name, places):
        seat_of(self.now.seats, name)
        self.move(with_uses(self.now, name, uses_of(self.now.web, places)))

    def __iter__(self):
        raise TypeError("a table is not iterated over")

    def edit(self, change):
        """Do an edit."""
        self.move(edited(self.now, change))

    def move(self, task):
        """Go on to another task, so that undo comes back."""
        self.past.append(self.now)
        self.now = task

    def undo(self):
        """Take back the last setting or edit, if there is one, and return whether there was."""
        if not self.past:
            return False
        self.now = self.past.pop()
        return True

    def total(self):
        """The total of the task, or None."""
        return self.now.total()

    def lots(self):
        """A dict from the names of the seats to their greatest best lots, None where there is none."""
        now = self.now
        return {name: greatest_best(now.web, now.seats[name], now.prices) for name in now.seats}


def copied(task):
    """A task that is equal to a task, but a new object."""
    return Task(task.web, task.seats, task.prices)


def greatest_best(web, uses, prices):
    """The greatest best lot for uses, or None if there is no best lot."""
    found = best_lots(web, uses, prices)
    return None if found is None else found[1]


def run_deeds(table, deeds):
    """Do the deeds at a table, in order."""
    for index, deed in enumerate(deeds):
        check_deed(index, deed)
        if deed[0] == SET:
            table[deed[1]] = deed[2]
        elif deed[0] == EDIT:
            table.edit(deed[1])
        else:
            table.undo()


def check_deed(index, deed):
    """Raise an error if the deed has none of the forms of deeds."""
    if not isinstance(deed, (list, tuple)) or len(deed) == 0:
        raise BadDeed(index)
    if (deed[0], len(deed)) not in ((SET, 3), (EDIT, 2), (UNDO, 1)):
        raise BadDeed(index)


def preview(table, deeds):
    """The total behind the deeds, which are done at another table like this one."""
    other = Table(table.now)
    other.past = list(table.past)
    run_deeds(other, deeds)
    return other.total()
