"""A desk: a book whose payments are led one by one, with undo and trials."""

from whomaysign.amounts import greatest, reaches
from whomaysign.clauses import MOST_DAYS
from whomaysign.errors import BadNumber, BadRow
from whomaysign.hands import signed, signs
from whomaysign.kinds import is_whole
from whomaysign.people import need_lot
from whomaysign.reach import is_payment, room


class Trial:
    """What gives a desk back its payments when a with statement ends."""

    def __init__(self, desk):
        self._desk = desk
        self._steps = []

    def __enter__(self):
        self._steps = list(self._desk._steps)
        return self._desk

    def __exit__(self, kind, value, trace):
        self._desk._steps = self._steps


class Desk:
    """A book whose payments are led one by one."""

    def __init__(self, book):
        self._book = book
        # A step is a payment, and what each clause has paid lately then, so that no step looks back on all.
        self._steps = []

    @property
    def row(self):
        """The payments so far."""
        return tuple([payment for payment, _ in self._steps])

    def __len__(self):
        return len(self._steps)

    def __eq__(self, other):
        return isinstance(other, Desk) and self._book == other._book and self.row == other.row

    def day(self):
        """The day of the last payment, 0 if there is none."""
        if not self._steps:
            return 0
        return self._steps[-1][0][0]

    def left(self, lot, day):
        """The greatest amount that a lot can pay at once on a day, 0 if it can pay none, None if there is no bound."""
        need_lot(self._book.people, lot)
        if not is_whole(day, self.day()):
            raise BadNumber(day)
        return greatest([self._room(number, day) for number in signed(self._book, lot)])

    def pay(self, lot, payment):
        """Leads a further payment, signed by a lot."""
        need_lot(self._book.people, lot)
        if not self._can_pay(lot, payment):
            raise BadRow(payment)
        self._steps.append((payment, _with_payment(self._paid(), payment)))

    def undo(self, many=1):
        """Takes back the last payments."""
        if not is_whole(many, 1, len(self._steps)):
            raise BadNumber(many)
        del self._steps[-many:]

    def trial(self):
        """For one with statement, behind which the desk is what it was ahead of it."""
        return Trial(self)

    def _can_pay(self, lot, thing):
        """Whether any value is a payment that a lot can sign now."""
        if not is_payment(self._book, thing):
            return False
        day, number, amount = thing
        return (day >= self.day() and signs(self._book, lot, number)
                and reaches(self._room(number, day), amount))

    def _room(self, number, day):
        """The greatest amount that can be paid at once by a clause on a day, None if there is no bound."""
        return room(self._book[number], self._paid()[number], day)

    def _paid(self):
        """For each clause the days and amounts that it has paid lately."""
        if not self._steps:
            return tuple([() for _ in self._book.clauses])
        return self._steps[-1][1]


def tried(desk, function):
    """What a function returns that is called with a desk in a trial."""
    with desk.trial() as same:
        return function(same)


def _with_payment(paid, payment):
    """What each clause has paid lately, with a payment on the last day."""
    day, number, amount = payment
    earlier = tuple([(past, total) for past, total in paid[number] if day - MOST_DAYS < past < day])
    today = sum([total for past, total in paid[number] if past == day])
    return paid[:number] + (earlier + ((day, today + amount),),) + paid[number + 1:]
