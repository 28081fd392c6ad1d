"""A book: the clauses by which people may sign, and whose hands are lent to whom."""

from whomaysign.clauses import Clause
from whomaysign.errors import BadBook, BadNumber
from whomaysign.kinds import is_whole
from whomaysign.people import is_person, need_people

MOST_CLAUSES = 5


class Book:
    """People, clauses with these people, and pairs of whom lends a hand to whom."""

    def __init__(self, people, clauses, lent=()):
        self.people = need_people(people)
        self.clauses = _need_clauses(people, clauses)
        self.lent = _need_lent(people, lent)

    def __len__(self):
        return len(self.clauses)

    def __getitem__(self, at):
        if not is_whole(at, 0, len(self.clauses) - 1):
            raise BadNumber(at)
        return self.clauses[at]

    def __iter__(self):
        raise TypeError("a book is not iterated over")

    def __eq__(self, other):
        return (isinstance(other, Book) and self.people == other.people and self.clauses == other.clauses
                and self.lent == other.lent)

    def adding(self, clause):
        """The book with a further clause at its end."""
        _need_clause(self.people, clause, len(self.clauses))
        return Book(self.people, self.clauses + (clause,), self.lent)

    def without(self, number):
        """The book without a clause, which is not its only one."""
        if len(self.clauses) == 1 or not is_whole(number, 0, len(self.clauses) - 1):
            raise BadNumber(number)
        return Book(self.people, self.clauses[:number] + self.clauses[number + 1:], self.lent)

    def lending(self, one, other):
        """The book in which one lends a hand to the other, too."""
        _need_two(self.people, one, other)
        if (one, other) in self.lent:
            return self
        return Book(self.people, self.clauses, self.lent + ((one, other),))

    def as_one(self, one, other):
        """The book if both names are one person, who is called one."""
        _need_two(self.people, one, other)
        names = {person: person for person in self.people}
        names[other] = one
        return _renamed(self, names)

    def leaving(self, person):
        """The book without a person, who is not its only one."""
        if len(self.people) == 1 or not is_person(self.people, person):
            raise BadNumber(person)
        return _renamed(self, {name: name for name in self.people if name != person})


def is_pair(people, thing):
    """Whether any value is a pair of two different people."""
    if not isinstance(thing, tuple) or len(thing) != 2:
        return False
    one, other = thing
    return is_person(people, one) and is_person(people, other) and one != other


def _need_clauses(people, thing):
    """The clauses as a tuple, so that later changes to a list have no effect."""
    if not isinstance(thing, (list, tuple)) or not 1 <= len(thing) <= MOST_CLAUSES:
        raise BadBook(None)
    for number, clause in enumerate(thing):
        _need_clause(people, clause, number)
    return tuple(thing)


def _need_clause(people, thing, number):
    if not isinstance(thing, Clause) or thing.people != people:
        raise BadBook(number)


def _need_lent(people, thing):
    """The ascending tuple of the pairs that are lent."""
    if not isinstance(thing, (list, tuple)) or not all([is_pair(people, pair) for pair in thing]):
        raise BadBook("lent")
    pairs = sorted(set(thing))
    if len(pairs) != len(thing):
        raise BadBook("lent")
    return tuple(pairs)


def _need_two(people, one, other):
    """Refuses what are not two different people, the first one first."""
    if not is_person(people, one):
        raise BadNumber(one)
    if not is_person(people, other) or one == other:
        raise BadNumber(other)


def _renamed(book, names):
    """The book with the people's new names, and without those who have none."""
    people = _renamed_lot(names, book.people)
    clauses = [
        Clause(people, tuple([_renamed_lot(names, lot) for lot in clause.slots]), clause.cap, clause.sums)
        for clause in book.clauses]
    return Book(people, clauses, _renamed_pairs(names, book.lent))


def _renamed_lot(names, lot):
    # Two people may have got one name, and it may stand elsewhere in the order.
    return tuple(sorted({names[person] for person in lot if person in names}))


def _renamed_pairs(names, pairs):
    known = [(names[one], names[other]) for one, other in pairs if one in names and other in names]
    return sorted({(one, other) for one, other in known if one != other})
