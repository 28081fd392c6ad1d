"""Who together can do so at least, and without whom nobody can."""

from whomaysign.amounts import greatest, reaches, together
from whomaysign.covers import least_cost
from whomaysign.errors import BadNumber, BadWish
from whomaysign.hands import signed, signed_by_each
from whomaysign.kinds import is_told, is_whole
from whomaysign.people import need_lot
from whomaysign.reach import most_at_once

MOST_DAYS = 60


def fulfils(book, lot, wish):
    """Whether a lot fulfils a wish."""
    need_lot(book.people, lot)
    worths = _worths(book, _need_wish(wish))
    return _are_enough(wish, [worths[number] for number in signed(book, lot)])


def least_lots(book, wish):
    """The ascending tuple of all least lots of a wish."""
    return _least(_fulfilling(book, wish))


def bars(book, wish):
    """The ascending tuple of all bars of a wish."""
    fulfilling = _fulfilling(book, wish)
    return _least({lot: not fulfilling[_others(book.people, lot)] for lot in fulfilling})


def levels(book, days):
    """For each number of people from 0 to all, the most that any lot of so many gathers in so many days."""
    if not is_whole(days, 0, MOST_DAYS):
        raise BadNumber(days)
    worths = [least_cost(clause, days) for clause in book.clauses]
    numbers = signed_by_each(book)
    sums = {lot: together([worths[number] for number in numbers[lot]]) for lot in numbers}
    return tuple([
        greatest([sums[lot] for lot in sums if len(lot) == many]) for many in range(len(book.people) + 1)])


def spared(book, wish):
    """The greatest number of people of whom any so many may be away, None if not even all fulfil a wish."""
    # The rest fails just if a whole bar is away.
    fewest = min([len(bar) for bar in bars(book, wish)])
    if fewest == 0:
        return None
    return fewest - 1


def _need_wish(thing):
    """Itself, if it is a wish."""
    if not _is_wish(thing):
        raise BadWish(thing)
    return thing


def _is_wish(thing):
    """Whether any value is a wish."""
    if is_told(thing, "once", 2):
        return is_whole(thing[1], 1)
    return is_told(thing, "days", 3) and is_whole(thing[1], 1, MOST_DAYS) and is_whole(thing[2], 1)


def _worths(book, wish):
    """What each clause of a book does towards a wish, None for no bound."""
    if wish[0] == "once":
        return [most_at_once(clause) for clause in book.clauses]
    return [least_cost(clause, wish[1]) for clause in book.clauses]


def _are_enough(wish, worths):
    """Whether a wish is fulfilled by what clauses do towards it."""
    if wish[0] == "once":
        return reaches(greatest(worths), wish[1])
    return reaches(together(worths), wish[2])


def _fulfilling(book, wish):
    """For each lot of the people whether it fulfils a wish."""
    worths = _worths(book, _need_wish(wish))
    numbers = signed_by_each(book)
    return {lot: _are_enough(wish, [worths[number] for number in numbers[lot]]) for lot in numbers}


def _least(holding):
    """The tuple of the lots that hold, while none with one person less does."""
    return tuple([
        lot for lot in holding if holding[lot] and not any([holding[less] for less in _with_one_less(lot)])])


def _with_one_less(lot):
    return [lot[:at] + lot[at + 1:] for at in range(len(lot))]


def _others(people, lot):
    return tuple([person for person in people if person not in lot])
