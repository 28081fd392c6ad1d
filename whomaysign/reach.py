"""What rows keep a book, and how much a lot of people can pay, at once and in so many days."""

from whomaysign.amounts import greatest, together
from whomaysign.covers import cover, cover_cost, is_cover, least_cost, need_days, spread
from whomaysign.errors import BadPaper, TooMany
from whomaysign.hands import filling, is_filling, is_short, short, signed, signs
from whomaysign.kinds import is_integer, is_told, is_whole
from whomaysign.people import need_lot

MOST_PAYMENTS = 2000


def is_payment(book, thing):
    """Whether any value is a payment by a clause of the book."""
    if not isinstance(thing, tuple) or len(thing) != 3:
        return False
    day, number, amount = thing
    return is_whole(day, 0) and is_whole(number, 0, len(book) - 1) and is_whole(amount, 1)


def keeps(book, row):
    """Whether any value is a row that keeps the book."""
    if not _is_row(book, row):
        return False
    return all([_keeps_clause(clause, _paid_by(row, number)) for number, clause in enumerate(book.clauses)])


def makes(book, lot, row):
    """Whether any value is a row that a lot makes."""
    numbers = signed(book, need_lot(book.people, lot))
    return keeps(book, row) and all([payment[1] in numbers for payment in row])


def room(clause, paid, day):
    """The greatest amount of one payment on a day, None if there is no bound.

    What was paid by the clause so far is told as days, none behind this one, and amounts.
    """
    bounds = [
        most - sum([amount for earlier, amount in paid if earlier > day - days]) for days, most in clause.sums]
    if clause.cap is not None:
        bounds = bounds + [clause.cap]
    return min(bounds, default=None)


def most_at_once(clause):
    """The greatest amount of one payment by a clause, None if there is no bound."""
    return room(clause, [], 0)


def at_once(book, lot):
    """The greatest amount that a lot can pay at once, 0 if it can pay none, None if there is no bound."""
    need_lot(book.people, lot)
    return greatest([most_at_once(book[number]) for number in signed(book, lot)])


def gathers(book, lot, days):
    """What a lot gathers in so many days, None if there is no bound."""
    need_lot(book.people, lot)
    need_days(days)
    return together([least_cost(book[number], days) for number in signed(book, lot)])


def paper(book, lot, days):
    """A paper on what a lot gathers in so many days."""
    number = gathers(book, lot, days)
    if number is None:
        return _free_paper(book, lot)
    numbers = signed(book, lot)
    if sum([_enough_payments(book[at], days) for at in numbers]) > MOST_PAYMENTS:
        raise TooMany(MOST_PAYMENTS)
    parts = tuple([_part(book, lot, days, at) for at in range(len(book))])
    row = [payment for at in numbers for payment in _payments(book[at], at, days)]
    return ("sum", number, parts, tuple(sorted(row)))


def check(book, lot, days, thing):
    """The first word of a paper on what a lot gathers in so many days."""
    need_lot(book.people, lot)
    need_days(days)
    if is_told(thing, "sum", 4):
        _check_sum(book, lot, days, thing)
        return "sum"
    if is_told(thing, "free", 3):
        _check_free(book, lot, days, thing)
        return "free"
    raise BadPaper("form")


def _is_row(book, thing):
    """Whether any value is a row of payments by clauses of the book."""
    if not isinstance(thing, tuple) or not all([is_payment(book, payment) for payment in thing]):
        return False
    days = [payment[0] for payment in thing]
    return days == sorted(days)


def _paid_by(row, number):
    """The days and amounts of the payments by a clause."""
    return [(day, amount) for day, used, amount in row if used == number]


def _keeps_clause(clause, paid):
    """Whether payments by a clause, as days and amounts, keep its cap and its sums."""
    if clause.cap is not None and any([amount > clause.cap for _, amount in paid]):
        return False
    return all([_keeps_sum(paid, days, most) for days, most in clause.sums])


def _keeps_sum(paid, days, most):
    """Whether in any so many days one behind another no more than that is paid."""
    total = 0
    first = 0
    for day, amount in paid:
        total += amount
        while paid[first][0] <= day - days:
            total -= paid[first][1]
            first += 1
        if total > most:
            return False
    return True


def _free_paper(book, lot):
    """A paper on a lot that gathers without a bound."""
    free = [number for number in signed(book, lot) if not book[number].sums]
    return ("free", free[0], filling(book, lot, free[0]))


def _part(book, lot, days, number):
    """What a paper tells of one clause."""
    if signs(book, lot, number):
        return ("signed", filling(book, lot, number), cover(book[number], days))
    return ("short", short(book, lot, number))


def _enough_payments(clause, days):
    """So many payments by a clause are enough for all that it pays in so many days."""
    if clause.cap is None:
        return days
    return days + least_cost(clause, days) // clause.cap


def _payments(clause, number, days):
    """Payments by a clause that reach the least cost of a cover of so many days."""
    payments = []
    for day, amount in enumerate(spread(clause, days)):
        left = amount
        while left > 0:
            part = left if clause.cap is None else min(left, clause.cap)
            payments.append((day, number, part))
            left -= part
    return payments


def _check_sum(book, lot, days, thing):
    """Refuses a tuple of four with "sum" that is no paper."""
    _, number, parts, row = thing
    if not is_integer(number):
        raise BadPaper("number")
    if not _are_parts(book, lot, days, parts) or _parts_cost(book, parts) != number:
        raise BadPaper("parts")
    if not makes(book, lot, row) or not all([payment[0] < days for payment in row]):
        raise BadPaper("row")
    if sum([payment[2] for payment in row]) != number:
        raise BadPaper("row")


def _are_parts(book, lot, days, thing):
    """Whether any value is the parts of a paper."""
    if not isinstance(thing, tuple) or len(thing) != len(book):
        return False
    return all([_is_part(book, lot, days, number, part) for number, part in enumerate(thing)])


def _is_part(book, lot, days, number, thing):
    """Whether any value is what a paper may tell of one clause."""
    if is_told(thing, "signed", 3):
        return is_filling(book, lot, number, thing[1]) and is_cover(book[number], days, thing[2])
    return is_told(thing, "short", 2) and is_short(book, lot, number, thing[1])


def _parts_cost(book, parts):
    """What all covers of the parts cost together."""
    return sum([cover_cost(book[number], part[2]) for number, part in enumerate(parts) if part[0] == "signed"])


def _check_free(book, lot, days, thing):
    """Refuses a tuple of three with "free" that is no paper."""
    _, number, people = thing
    if days == 0 or not is_whole(number, 0, len(book) - 1) or book[number].sums:
        raise BadPaper("number")
    if not is_filling(book, lot, number, people):
        raise BadPaper("filling")
