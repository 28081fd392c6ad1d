"""What the document's words ask for, counted out plainly, so that the package's answers are held against it."""

import functools
import itertools
import random
import re

from whomaysign.books import Book
from whomaysign.clauses import Clause


def whole(thing, least=0):
    """Whether any value is an integer from least on, and neither True nor False."""
    return type(thing) is int and thing >= least


def all_parts(things):
    """All tuples of some of the things, in their order."""
    for many in range(len(things) + 1):
        yield from itertools.combinations(things, many)


@functools.lru_cache(maxsize=None)
def paths(people, lent):
    """All rows of different people each of whom lends a hand to the next one, as their two ends."""
    rows = (row for many in range(2, len(people) + 1) for row in itertools.permutations(people, many))
    return {(row[0], row[-1]) for row in rows if all(pair in lent for pair in zip(row, row[1:]))}


def lent_on(book, one, other):
    """Whether a hand is one's own, or some row of pairs leads from the one to the other."""
    return one == other or (one, other) in paths(book.people, book.lent)


def may_fill(book, person, slot):
    return any(lent_on(book, other, person) for other in slot)


def fillers(book, number):
    return tuple(
        tuple(person for person in book.people if may_fill(book, person, slot)) for slot in book[number].slots)


def fillings(book, lot, number):
    return all_fillings(fillers(book, number), lot)


@functools.lru_cache(maxsize=None)
def all_fillings(who, lot):
    return [
        people for people in itertools.permutations(lot, len(who))
        if all(person in some for person, some in zip(people, who))]


def shorts(book, lot, number):
    who = fillers(book, number)
    return [
        slots for slots in all_parts(range(len(who)))
        if sum(any(person in who[slot] for slot in slots) for person in lot) < len(slots)]


def signs(book, lot, number):
    return bool(fillings(book, lot, number))


def amounts_keep(clause, amounts):
    """Whether amounts for days from 0 on keep all sums of a clause."""
    return all(
        sum(amounts[max(0, start):max(0, start + days)]) <= most
        for days, most in clause.sums for start in range(-days, len(amounts) + 1))


def most_total(clause, days):
    """The greatest total of amounts for so many days that keep all sums, None if there is no bound."""
    return total_of_sums(clause.sums, days)


@functools.lru_cache(maxsize=None)
def total_of_sums(sums, days):
    if days and not sums:
        return None
    clause = Clause(("a",), ((),), None, sums)
    every = itertools.product(range(min((most for _, most in sums), default=0) + 1), repeat=days)
    return max(sum(amounts) for amounts in every if amounts_keep(clause, amounts))


def is_window(clause, thing):
    return (type(thing) is tuple and len(thing) == 2 and whole(thing[0]) and whole(thing[1])
            and any(days == thing[1] for days, _ in clause.sums))


def is_cover(clause, days, thing):
    if type(thing) is not tuple or not all(is_window(clause, window) for window in thing):
        return False
    if any(one > other for one, other in zip(thing, thing[1:])):
        return False
    return all(any(start <= day < start + length for start, length in thing) for day in range(days))


def cost(clause, windows):
    return sum(most for _, length in windows for days, most in clause.sums if days == length)


def cheapest(clause, days):
    """The least cost of a cover, None if there is none."""
    return cost_of_sums(clause.sums, days)


@functools.lru_cache(maxsize=None)
def cost_of_sums(sums, days):
    clause = Clause(("a",), ((),), None, sums)
    windows = [(start, length) for start in range(days) for length, _ in clause.sums]
    # A cover without needless windows has one for each day at most.
    every = (
        some for many in range(days + 1) for some in itertools.combinations_with_replacement(sorted(windows), many))
    return min((cost(clause, some) for some in every if is_cover(clause, days, some)), default=None)


@functools.lru_cache(maxsize=None)
def costs_of_sums(sums, days):
    """The least costs of covers of 0 days, of 1 day and so on, None where there is none."""
    # Windows one behind another hold as many days as windows can; exact[many] is the least cost of just so many.
    exact = [0] + [None] * (days + 7)
    for length, most in sums:
        for many in range(length, days + 8):
            if exact[many - length] is not None and (exact[many] is None or exact[many - length] + most < exact[many]):
                exact[many] = exact[many - length] + most
    # A cover of least cost holds no window's days more than are wanted.
    held = [[cost for cost in exact[many:many + 7] if cost is not None] for many in range(days + 1)]
    return tuple(min(costs, default=None) for costs in held)


def is_payment(book, thing):
    return (type(thing) is tuple and len(thing) == 3 and whole(thing[0]) and whole(thing[1])
            and thing[1] < len(book.clauses) and whole(thing[2], 1))


def keeps(book, row):
    if type(row) is not tuple or not all(is_payment(book, payment) for payment in row):
        return False
    if any(one[0] > other[0] for one, other in zip(row, row[1:])):
        return False
    for number, clause in enumerate(book.clauses):
        paid = [(day, amount) for day, used, amount in row if used == number]
        if clause.cap is not None and any(amount > clause.cap for _, amount in paid):
            return False
        # Days that hold too much still do if the first of them is moved on to one with a payment.
        for days, most in clause.sums:
            for start, _ in paid:
                if sum(amount for day, amount in paid if start <= day < start + days) > most:
                    return False
    return True


def makes(book, lot, row):
    return keeps(book, row) and all(signs(book, lot, number) for _, number, _ in row)


def pays_at_once(book, lot, amount):
    return any(
        signs(book, lot, number) and (clause.cap is None or clause.cap >= amount)
        and all(most >= amount for _, most in clause.sums) for number, clause in enumerate(book.clauses))


def gathers(book, lot, days, most=most_total):
    """What a lot gathers, with what tells the greatest total of a clause."""
    totals = [most(clause, days) for number, clause in enumerate(book.clauses) if signs(book, lot, number)]
    return None if None in totals else sum(totals)


def gathers_each(book, lot, days):
    """What a lot gathers in 0 days, in 1 day, and so on."""
    costs = [costs_of_sums(clause.sums, days) for number, clause in enumerate(book.clauses) if signs(book, lot, number)]
    return [None if None in totals else sum(totals) for totals in zip([0] * (days + 1), *costs)]


def parting(one, other, days):
    """By which lot first, and in what, two books are not alike, as far as up to so many days tell."""
    bounds = [clause.cap for book in (one, other) for clause in book.clauses if clause.cap is not None]
    bounds += [most for book in (one, other) for clause in book.clauses for _, most in clause.sums]
    # Amounts that differ in who pays them have some bound between them.
    amounts = {1} | {bound + more for bound in bounds for more in (0, 1)}
    for lot in sorted(all_parts(one.people)):
        if any(pays_at_once(one, lot, amount) != pays_at_once(other, lot, amount) for amount in amounts):
            return ("once", lot)
        both = zip(gathers_each(one, lot, days), gathers_each(other, lot, days))
        unlike = [day for day, (here, there) in enumerate(both) if here != there]
        if unlike:
            return ("days", lot, unlike[0])
    return None


def fulfils(book, lot, wish):
    if wish[0] == "once":
        return pays_at_once(book, lot, wish[1])
    # A count of all amounts would be too long for great sums.
    total = gathers(book, lot, wish[1], cheapest)
    return total is None or total >= wish[2]


def kept_from(people, away):
    return tuple(person for person in people if person not in away)


def is_told(thing, word, many):
    return type(thing) is tuple and len(thing) == many and type(thing[0]) is str and thing[0] == word


def is_part(book, lot, days, number, thing):
    if is_told(thing, "signed", 3):
        return is_one_of(thing[1], fillings(book, lot, number)) and is_cover(book[number], days, thing[2])
    return is_told(thing, "short", 2) and is_one_of(thing[1], shorts(book, lot, number))


def check(book, lot, days, thing):
    """The first word of a paper, or in a list the place for which any other value is refused."""
    if is_told(thing, "free", 3):
        number = thing[1]
        if not whole(number) or number >= len(book.clauses) or book[number].sums or days == 0:
            return ["number"]
        return "free" if is_one_of(thing[2], fillings(book, lot, number)) else ["filling"]
    if not is_told(thing, "sum", 4):
        return ["form"]
    _, number, parts, row = thing
    if type(number) is not int:
        return ["number"]
    if type(parts) is not tuple or len(parts) != len(book.clauses):
        return ["parts"]
    if not all(is_part(book, lot, days, at, part) for at, part in enumerate(parts)):
        return ["parts"]
    if sum(cost(book[at], part[2]) for at, part in enumerate(parts) if part[0] == "signed") != number:
        return ["parts"]
    if not makes(book, lot, row) or any(day >= days for day, _, _ in row):
        return ["row"]
    return "sum" if sum(amount for _, _, amount in row) == number else ["row"]


LOT = r"(?:-|[a-z]{1,8}(?:[+][a-z]{1,8})*)"
NUMBER = r"[1-9][0-9]{0,999}"
CLAUSE_LINE = re.compile(rf"slots((?: {LOT}){{1,4}}) cap (-|{NUMBER}) sums((?: [1-7]:{NUMBER}){{0,3}})")
PEOPLE_LINE = re.compile(r"people((?: [a-z]{1,8}){1,6})")
LENT_LINE = re.compile(r"lent ([a-z]{1,8}) ([a-z]{1,8})")


def rises(things):
    return all(one < other for one, other in zip(things, things[1:]))


def read_clause(people, line):
    """The clause that a line tells of, None if it tells of none."""
    found = CLAUSE_LINE.fullmatch(line)
    if not found:
        return None
    slots = tuple(() if word == "-" else tuple(word.split("+")) for word in found[1].split())
    sums = tuple(tuple(int(number) for number in word.split(":")) for word in found[3].split())
    if not rises([days for days, _ in sums]) or not all(rises(lot) and set(lot) <= set(people) for lot in slots):
        return None
    return Clause(people, slots, None if found[2] == "-" else int(found[2]), sums)


def read_people(line):
    found = PEOPLE_LINE.fullmatch(line)
    return tuple(found[1].split()) if found and rises(found[1].split()) else None


def read_lent(people, line):
    found = LENT_LINE.fullmatch(line)
    return found.groups() if found and found[1] != found[2] and set(found.groups()) <= set(people) else None


def read_book(text):
    """The book that a text tells of, or the number of the first line that can't stand there."""
    first, *rest = text.split("\n")
    people = read_people(first)
    if people is None:
        return 1
    clauses, lent = [], []
    for number, line in enumerate(rest, 2):
        clause, pair = read_clause(people, line), read_lent(people, line)
        if clause is not None and not lent and len(clauses) < 5:
            clauses.append(clause)
        elif pair is not None and clauses and rises(lent + [pair]):
            lent.append(pair)
        else:
            return number
    return Book(people, clauses, lent) if clauses else 2


def near_texts(text, signs):
    """Texts that differ from a text by a sign, a word or a line."""
    for at in range(len(text) + 1):
        yield text[:at] + text[at + 1:]
        yield text[:at] + text[at:at + 1] + text[at:]
        yield text[:at] + text[at + 1:at + 2] + text[at:at + 1] + text[at + 2:]
        for sign in signs:
            yield text[:at] + sign + text[at:]
            yield text[:at] + sign + text[at + 1:]
    for between in ("\n", " ", "+", ":"):
        parts = text.split(between)
        for at, part in enumerate(parts):
            yield between.join(parts[:at] + parts[at + 1:])
            yield between.join(parts[:at] + [part] + parts[at:])
            yield between.join(parts[:at])
            yield between.join(parts[at:])
            for other in range(at):
                yield between.join(parts[:other] + [part] + parts[other + 1:at] + [parts[other]] + parts[at + 1:])
        yield between.join(parts[::-1])
        yield (between + between).join(parts)
        yield between + text
        yield text + between


def is_one_of(thing, things):
    """Whether a value is one of those, and of the same kinds at any depth."""
    return any(same(thing, other) for other in things)


def same(one, other):
    if type(one) is not type(other):
        return False
    if type(one) is tuple:
        return len(one) == len(other) and all(same(a, b) for a, b in zip(one, other))
    return one == other


def spoiled(thing, wrongs):
    """Values that differ from a thing in one place, at any depth of its tuples."""
    yield from wrongs
    if type(thing) is int:
        yield from (thing - 1, thing + 1, -thing, str(thing), (thing,))
    if type(thing) is not tuple:
        return
    yield list(thing)
    yield thing[::-1]
    yield thing + thing
    yield (thing,)
    for at, item in enumerate(thing):
        yield thing[:at] + thing[at + 1:]
        yield thing[:at] + (item, item) + thing[at + 1:]
        yield thing[at:] + thing[:at]
        for other in spoiled(item, wrongs):
            yield thing[:at] + (other,) + thing[at + 1:]


def some_lot(chance, people):
    return tuple(person for person in people if chance.random() < 0.5)


def some_clause(chance, people, most):
    slots = tuple(some_lot(chance, people) for _ in range(chance.choice((1, 1, 1, 2, 2, 3, 4))))
    lengths = sorted(chance.sample(range(1, 8), chance.choice((0, 1, 1, 2, 2, 3, 3))))
    cap = chance.choice((None, chance.randint(1, most)))
    return Clause(people, slots, cap, tuple((days, chance.randint(1, most)) for days in lengths))


def some_books(seed, many, people, most=3):
    """So many small books, the same ones for the same seed."""
    chance = random.Random(seed)
    pairs = list(itertools.permutations(people, 2))
    for _ in range(many):
        clauses = [some_clause(chance, people, most) for _ in range(chance.randint(1, 5))]
        yield Book(people, clauses, chance.sample(pairs, chance.choice((0, 0, 1, 2, min(5, len(pairs))))))
