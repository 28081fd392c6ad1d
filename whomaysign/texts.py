"""Clauses and books as texts, and read from them."""

from whomaysign.books import MOST_CLAUSES, Book, is_pair
from whomaysign.clauses import Clause
from whomaysign.errors import BadClause, BadPeople, BadText
from whomaysign.kinds import ascends
from whomaysign.people import need_people

NONE = "-"
FIGURES = "0123456789"
MOST_FIGURES = 1000
# Python itself shows a number of some thousand figures no more, but shows each of its parts.
PART = 10 ** 64
PART_FIGURES = 64


def clause_text(clause):
    """The line that tells of a clause."""
    words = ["slots"] + [_lot_text(lot) for lot in clause.slots]
    words = words + ["cap", _cap_text(clause.cap)]
    words = words + ["sums"] + [f"{days}:{_number_text(most)}" for days, most in clause.sums]
    return " ".join(words)


def read_clause(people, text):
    """The clause with these people that a line tells of."""
    need_people(people)
    return _read_clause_line(people, _need_text(text), 1)


def book_text(book):
    """The lines that tell of a book."""
    lines = [" ".join(["people"] + list(book.people))]
    lines = lines + [clause_text(clause) for clause in book.clauses]
    lines = lines + [f"lent {one} {other}" for one, other in book.lent]
    return "\n".join(lines)


def read_book(text):
    """The book that lines tell of."""
    lines = _need_text(text).split("\n")
    people = _read_people_line(lines[0])
    clauses = []
    lent = []
    for number, line in enumerate(lines[1:], start=2):
        if clauses and line.startswith("lent "):
            lent.append(_read_lent_line(people, lent, line, number))
        elif lent or len(clauses) == MOST_CLAUSES:
            raise BadText(number)
        else:
            clauses.append(_read_clause_line(people, line, number))
    if not clauses:
        raise BadText(2)
    return Book(people, clauses, lent)


def _lot_text(lot):
    if not lot:
        return NONE
    return "+".join(lot)


def _cap_text(cap):
    if cap is None:
        return NONE
    return _number_text(cap)


def _number_text(number):
    """The figures of a number from 0 on, however many they are."""
    parts = []
    while number >= PART:
        number, part = divmod(number, PART)
        parts.append(str(part).zfill(PART_FIGURES))
    parts.append(str(number))
    return "".join(parts[::-1])


def _need_text(thing):
    """Itself, if it is a text."""
    if not isinstance(thing, str):
        raise BadText(None)
    return thing


def _read_people_line(line):
    """The people that the first line tells of."""
    words = line.split(" ")
    if words[0] != "people":
        raise BadText(1)
    try:
        return need_people(tuple(words[1:]))
    except BadPeople:
        raise BadText(1) from None


def _read_lent_line(people, lent, line, number):
    """The pair that a line tells of, behind those that are lent ahead of it."""
    pair = tuple(line.split(" ")[1:])
    if not is_pair(people, pair) or not ascends(lent + [pair]):
        raise BadText(number)
    return pair


def _read_clause_line(people, line, number):
    """The clause that a line tells of."""
    words = line.split(" ")
    # People may be called sums or cap, but none stands behind the last "sums".
    ends = [at for at, word in enumerate(words) if word == "sums"]
    if not ends:
        raise BadText(number)
    head = words[:ends[-1]]
    if head[:1] != ["slots"] or head[-2:-1] != ["cap"]:
        raise BadText(number)
    slots = tuple([_read_lot(word) for word in head[1:-2]])
    cap = _read_cap(head[-1], number)
    sums = tuple([_read_sum(word, number) for word in words[ends[-1] + 1:]])
    try:
        return Clause(people, slots, cap, sums)
    except BadClause:
        raise BadText(number) from None


def _read_lot(word):
    """What may be a lot."""
    if word == NONE:
        return ()
    return tuple(word.split("+"))


def _read_cap(word, number):
    if word == NONE:
        return None
    return _read_number(word, number)


def _read_sum(word, number):
    """What may be a pair of days and a sum."""
    days, _, most = word.partition(":")
    return (_read_number(days, number), _read_number(most, number))


def _read_number(word, number):
    """The number from 1 on that a word of a line tells."""
    if not 1 <= len(word) <= MOST_FIGURES or not all([sign in FIGURES for sign in word]) or word[0] == "0":
        raise BadText(number)
    return int(word)
