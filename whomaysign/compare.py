"""Whether two books are alike for all lots, amounts and days, and which clauses a book does not need."""

from whomaysign.amounts import greatest, together
from whomaysign.covers import least_costs
from whomaysign.errors import BadPeople
from whomaysign.hands import signed_by_each
from whomaysign.people import all_lots
from whomaysign.reach import most_at_once

# What lots gather in more days is alike, too, if it is so far.
MOST_DAYS = 882


def alike(one, other):
    """Whether two books with the same people are alike."""
    return parting(one, other) is None


def parting(one, other):
    """By which lot first, and in what, two books are not alike, None if they are."""
    if one.people != other.people:
        raise BadPeople(other.people)
    numbers, others = signed_by_each(one), signed_by_each(other)
    costs, other_costs = _costs(one), _costs(other)
    # Many lots sign the same clauses, and what they gather in all those days is slow to tell.
    gathering_alike = {}
    for lot in all_lots(one.people):
        if _at_once(one, numbers[lot]) != _at_once(other, others[lot]):
            return ("once", lot)
        signed = (tuple(numbers[lot]), tuple(others[lot]))
        if signed not in gathering_alike:
            days = _first_unlike(_gathered(costs, numbers[lot]), _gathered(other_costs, others[lot]))
            if days is not None:
                return ("days", lot, days)
            gathering_alike[signed] = True
    return None


def never_needed(book):
    """The numbers of the clauses without which the book is alike, each by itself."""
    if len(book) == 1:
        return ()
    return tuple([number for number in range(len(book)) if alike(book, book.without(number))])


def _at_once(book, numbers):
    """The greatest amount that is paid at once by so numbered clauses."""
    return greatest([most_at_once(book[number]) for number in numbers])


def _costs(book):
    """For each clause the least costs of covers of 0 days, of 1 day, and so on, None where there is none."""
    return [_costs_of_clause(clause) for clause in book.clauses]


def _costs_of_clause(clause):
    costs = least_costs(clause, MOST_DAYS)
    if costs is None:
        return [0] + [None] * MOST_DAYS
    return costs


def _gathered(costs, numbers):
    """What is gathered by so numbered clauses in 0 days, in 1 day, and so on, None where there is no bound."""
    return [together([costs[number][days] for number in numbers]) for days in range(MOST_DAYS + 1)]


def _first_unlike(one, other):
    """The place of the first two amounts that differ, None if none do."""
    for place, amounts in enumerate(zip(one, other)):
        if amounts[0] != amounts[1]:
            return place
    return None
