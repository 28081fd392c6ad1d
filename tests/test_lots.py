import itertools
import unittest

import plain
from samples import (ALONE, BOOK, BOTH, FOLK, GREAT, KINDS, SIX, STRANGE, WRONG_LOTS, Case, wrong_numbers)
from whomaysign.books import Book
from whomaysign.clauses import Clause
from whomaysign.errors import BadLot, BadNumber, BadWish
from whomaysign.lots import bars, fulfils, least_lots, levels, spared
from whomaysign.people import all_lots
from whomaysign.reach import at_once, gathers

WISHES = [("once", amount) for amount in (1, 2, 3, 4, GREAT)] + [
    ("days", days, total) for days in (1, 2, 3) for total in (1, 2, 4, 7, GREAT)]
# None of these is a wish.
WRONG_WISHES = STRANGE + [
    (), ("once",), ("days",), ("once", 0), ("once", -1), ("once", True), ("once", False), ("once", None), ("once", "1"),
    ("once", (1,)), ("once", [1]), ("once", -GREAT), ("once", 0.5), ["once", 1], ("once", 1, 1), ("once", 1, 1, 1),
    ("Once", 1), ("once ", 1), (b"once", 1), (("once",), 1), (("once", 1),), ("on", 1), ("days", 1), ("days", 0, 1),
    ("days", 61, 1), ("days", -1, 1), ("days", GREAT, 1), ("days", True, 1), ("days", None, 1), ("days", "1", 1),
    ("days", 1, 0), ("days", 1, -1), ("days", 1, True), ("days", 1, False), ("days", 1, None), ("days", 1, "1"),
    ("days", 0, 0), ("days", (1,), 1), ("days", 1, (1,)), ["days", 1, 1], ("days", 1, 1, 1), ("Days", 1, 1),
    ("once", "days", 1), ("days", "once", 1), (1, 1), (1, 1, 1), ("sum", 1), ("free", 1, 1), (1, "once"), "once",
    ("days", 1000, 1), ("days", 60.5, 1),
]
ANN = (("ann",),)


def small_books():
    yield from (BOOK, BOOK.lending("bob", "cat"))
    yield from plain.some_books(31, 60, FOLK)
    yield from plain.some_books(32, 12, ("ann", "bob"))
    yield from plain.some_books(33, 6, SIX)


def is_wish(thing):
    """Whether any value is a wish, by the document's words."""
    if plain.is_told(thing, "once", 2):
        return plain.whole(thing[1], 1)
    return (plain.is_told(thing, "days", 3) and plain.whole(thing[1], 1) and thing[1] <= 60
            and plain.whole(thing[2], 1))


class Told:
    """What the document's words tell of all lots for one wish."""

    def __init__(self, book, wish):
        self.people = book.people
        self.lots = sorted(plain.all_parts(book.people))
        self.fulfilling = {lot: plain.fulfils(book, lot, wish) for lot in self.lots}

    def without(self, lot):
        return self.fulfilling[plain.kept_from(self.people, lot)]

    def least(self):
        return tuple(
            lot for lot in self.lots if self.fulfilling[lot]
            and not any(self.fulfilling[plain.kept_from(lot, (person,))] for person in lot))

    def bars(self):
        return tuple(
            lot for lot in self.lots if not self.without(lot)
            and all(self.without(plain.kept_from(lot, (person,))) for person in lot))

    def spared(self):
        if not self.fulfilling[self.people]:
            return None
        return max(
            many for many in range(len(self.people) + 1)
            if all(self.without(away) for away in self.lots if len(away) == many))


def crossing(lots, people):
    """The least lots that have a person of each of those."""
    crossed = [lot for lot in plain.all_parts(people) if all(set(lot) & set(other) for other in lots)]
    return tuple(sorted(lot for lot in crossed if not any(set(other) < set(lot) for other in crossed)))


class Fulfilling(Case):

    def test_of_the_example(self):
        for lot in all_lots(FOLK):
            both = "ann" in lot and "bob" in lot
            self.assertIs(fulfils(BOOK, lot, ("once", 500)), lot != ())
            self.assertIs(fulfils(BOOK, lot, ("once", 501)), both)
            self.assertIs(fulfils(BOOK, lot, ("once", GREAT)), both)
            self.assertIs(fulfils(BOOK, lot, ("days", 7, 2500)), lot != ())
            self.assertIs(fulfils(BOOK, lot, ("days", 7, 2501)), both)
            self.assertIs(fulfils(BOOK, lot, ("days", 60, GREAT)), both)

    def test_just_at_what_is_told(self):
        for book in small_books():
            for lot in all_lots(book.people):
                most = at_once(book, lot)
                for amount in (1, 2, 3, 4, 500, 501, GREAT):
                    self.assertIs(fulfils(book, lot, ("once", amount)), most is None or amount <= most)
                for days in (1, 2, 60):
                    most = gathers(book, lot, days)
                    for total in (1, 4, GREAT) if not most else (1, most, most + 1):
                        want = most is None or total <= most
                        self.assertIs(fulfils(book, lot, ("days", days, total)), want)

    def test_once_is_not_one_day(self):
        # In a day two payments of 5 reach 10, at once only 5 are paid.
        book = Book(FOLK, [Clause(FOLK, ANN, 5, ((1, 10),))])
        self.assertIs(fulfils(book, FOLK, ("days", 1, 10)), True)
        self.assertIs(fulfils(book, FOLK, ("once", 10)), False)
        self.assertIs(fulfils(book, FOLK, ("once", 5)), True)
        # And two clauses are not joined at once.
        book = Book(FOLK, [Clause(FOLK, ANN, None, ((1, 5),))] * 2)
        self.assertIs(fulfils(book, FOLK, ("days", 1, 10)), True)
        self.assertIs(fulfils(book, FOLK, ("once", 6)), False)

    def test_nobody_fulfils_nothing(self):
        for book in small_books():
            for wish in WISHES:
                self.assertIs(fulfils(book, (), wish), False)

    def test_what_is_told_may_be_passed(self):
        book = Book(FOLK, [Clause(FOLK, ANN, None, ((1, 10 ** 1000 - 1),))])
        most = gathers(book, FOLK, 60)
        self.assertIs(fulfils(book, FOLK, ("days", 60, most)), True)
        self.assertIs(fulfils(book, FOLK, ("days", 60, most + 1)), False)

    def test_by_name(self):
        self.assertIs(fulfils(wish=("once", 501), lot=("ann", "bob"), book=BOOK), True)


class LeastLots(Case):

    def test_of_the_example(self):
        self.assertEqual(least_lots(BOOK, ("once", 501)), (("ann", "bob"),))
        self.assertEqual(least_lots(BOOK, ("once", 500)), (("ann",), ("bob",), ("cat",)))
        self.assertEqual(least_lots(BOOK.lending("bob", "cat"), ("once", 501)), (
            ("ann", "bob"), ("ann", "cat"), ("bob", "cat")))

    def test_a_wish_that_nobody_fulfils(self):
        for book, wish in [
                (Book(FOLK, [ALONE]), ("once", 501)), (Book(FOLK, [ALONE]), ("days", 7, 2501)),
                (Book(FOLK, [Clause(FOLK, ((),))]), ("once", 1)),
                (Book(FOLK, [Clause(FOLK, (FOLK,) * 4)]), ("once", 1)),
                (Book(("a",), [Clause(("a",), (("a",), ("a",)))]), ("days", 60, 1))]:
            self.assertEqual(least_lots(book, wish), ())
            self.assertEqual(bars(book, wish), ((),))
            self.assertIs(spared(book, wish), None)

    def test_lots_of_many_sizes(self):
        clauses = [Clause(SIX, (("fay",),)), Clause(SIX, (("ann", "bob"), ("ann", "bob"))),
                   Clause(SIX, (("cat",), ("dan",), ("ann", "eve")))]
        self.assertEqual(least_lots(Book(SIX, clauses), ("once", 1)), (
            ("ann", "bob"), ("ann", "cat", "dan"), ("cat", "dan", "eve"), ("fay",)))

    def test_small_books(self):
        for book in small_books():
            for wish in WISHES:
                told = Told(book, wish)
                lots = least_lots(book, wish)
                self.assertEqual(lots, told.least())
                self.assertIs(type(lots), tuple)
                self.assertEqual(lots, least_lots(book, wish))
                for lot in told.lots:
                    self.assertIs(fulfils(book, lot, wish), told.fulfilling[lot])

    def test_by_name(self):
        self.assertEqual(least_lots(wish=("once", 501), book=BOOK), (("ann", "bob"),))


class Bars(Case):

    def test_of_the_example(self):
        self.assertEqual(bars(BOOK, ("once", 501)), (("ann",), ("bob",)))
        self.assertEqual(bars(BOOK, ("once", 500)), (FOLK,))

    def test_six_people(self):
        # Any three of six.
        book = Book(SIX, [Clause(SIX, (SIX,) * 3)])
        self.assertEqual(least_lots(book, ("days", 1, 1)), tuple(itertools.combinations(SIX, 3)))
        self.assertEqual(bars(book, ("days", 1, 1)), tuple(itertools.combinations(SIX, 4)))
        self.assertEqual(spared(book, ("days", 1, 1)), 3)

    def test_small_books(self):
        for book in small_books():
            for wish in WISHES:
                told = bars(book, wish)
                self.assertEqual(told, Told(book, wish).bars())
                self.assertIs(type(told), tuple)
                self.assertEqual(told, bars(book, wish))

    def test_the_fact_that_joins_them(self):
        some = 0
        for book in small_books():
            for wish in WISHES:
                lots, barred = least_lots(book, wish), bars(book, wish)
                if fulfils(book, book.people, wish):
                    some += 1
                    self.assertEqual(barred, crossing(lots, book.people))
                    self.assertEqual(lots, crossing(barred, book.people))
                else:
                    self.assertEqual((lots, barred), ((), ((),)))
        self.assertGreater(some, 200)

    def test_by_name(self):
        self.assertEqual(bars(wish=("once", 501), book=BOOK), (("ann",), ("bob",)))


class Levels(Case):

    def test_of_the_example(self):
        self.assertEqual(levels(BOOK, 7), (0, 2500, None, None))
        self.assertEqual(levels(BOOK.without(1), 7), (0, 2500, 2500, 2500))
        self.assertEqual(levels(BOOK, 0), (0, 0, 0, 0))

    def test_one_person_and_six(self):
        book = Book(("a",), [Clause(("a",), (("a",),), None, ((2, 9),))])
        self.assertEqual([levels(book, days) for days in (0, 1, 2, 3, 60)], [
            (0, 0), (0, 9), (0, 9), (0, 18), (0, 270)])
        self.assertEqual(levels(Book(("a",), [Clause(("a",), (("a",),), 9)]), 1), (0, None))
        six = Book(SIX, [Clause(SIX, (SIX,) * many, None, ((1, 10 ** many),)) for many in range(1, 5)])
        self.assertEqual(levels(six, 2), (0, 20, 220, 2220, 22220, 22220, 22220))
        self.assertEqual(levels(six.adding(Clause(SIX, (("fay",), SIX))), 2), (0, 20) + (None,) * 5)

    def test_the_best_lot_of_so_many(self):
        clauses = [Clause(SIX, ((person,),), 1, ((1, most),)) for person, most in zip(SIX, (3, 1, 4, 2, 5))]
        self.assertEqual(levels(Book(SIX, clauses), 3), (0, 15, 27, 36, 42, 45, 45))

    def test_small_books(self):
        for book in small_books():
            for days in range(4):
                told = levels(book, days)
                self.assertIs(type(told), tuple)
                self.assertEqual(told, levels(book, days))
                most = []
                for many in range(len(book.people) + 1):
                    sums = [plain.gathers(book, lot, days, plain.cheapest)
                            for lot in itertools.combinations(book.people, many)]
                    most.append(None if None in sums else max(sums))
                self.assertEqual(told, tuple(most))

    def test_days(self):
        for days in wrong_numbers(61):
            self.refuses(BadNumber, days, levels, BOOK, days)
        for days in (0, 1, 60):
            self.assertEqual(levels(BOOK, days)[1], gathers(BOOK, ("ann",), days))

    def test_by_name(self):
        self.assertEqual(levels(days=7, book=BOOK), (0, 2500, None, None))
        self.refuses(BadNumber, 61, levels, days=61, book=BOOK)


class Spared(Case):

    def test_of_the_example(self):
        self.assertEqual(spared(BOOK, ("once", 501)), 0)
        self.assertEqual(spared(BOOK, ("once", 500)), 2)
        self.assertEqual(spared(BOOK.lending("bob", "cat"), ("once", 501)), 1)

    def test_one_person_and_six(self):
        self.assertEqual(spared(Book(("a",), [Clause(("a",), (("a",),))]), ("once", 1)), 0)
        self.assertIs(spared(Book(("a",), [Clause(("a",), ((),))]), ("once", 1)), None)
        for many in range(1, 5):
            self.assertEqual(spared(Book(SIX, [Clause(SIX, (SIX,) * many)]), ("once", GREAT)), 6 - many)

    def test_bars_of_other_sizes(self):
        # Without fay nobody, though many others may be away.
        book = Book(SIX, [Clause(SIX, (("fay",), SIX))])
        self.assertEqual(bars(book, ("once", 1)), (("ann", "bob", "cat", "dan", "eve"), ("fay",)))
        self.assertEqual(spared(book, ("once", 1)), 0)

    def test_small_books(self):
        for book in small_books():
            for wish in WISHES:
                self.assertEqual(spared(book, wish), Told(book, wish).spared())

    def test_by_name(self):
        self.assertEqual(spared(wish=("once", 500), book=BOOK), 2)


class Refusing(Case):

    def test_wish(self):
        for wish in WRONG_WISHES:
            for lot in ((), FOLK):
                self.refuses(BadWish, wish, fulfils, BOOK, lot, wish)
            for asked in (least_lots, bars, spared):
                self.refuses(BadWish, wish, asked, BOOK, wish)

    def test_right_ones_spoiled_in_one_place(self):
        for right in [("once", 1), ("once", GREAT), ("days", 1, 1), ("days", 60, GREAT)]:
            for wish in plain.spoiled(right, KINDS):
                for asked in (lambda book, wish: fulfils(book, ("ann",), wish), least_lots, bars, spared):
                    if is_wish(wish):
                        asked(BOOK, wish)
                    else:
                        self.refuses(BadWish, wish, asked, BOOK, wish)

    def test_the_bounds_of_days(self):
        for days in range(-1, 70):
            if 1 <= days <= 60:
                self.assertEqual(least_lots(BOOK, ("days", days, 1)), (("ann",), ("bob",), ("cat",)))
            else:
                self.refuses(BadWish, ("days", days, 1), least_lots, BOOK, ("days", days, 1))

    def test_lot(self):
        for lot in WRONG_LOTS:
            self.refuses(BadLot, lot, fulfils, BOOK, lot, ("once", 1))

    def test_lot_ahead_of_wish(self):
        self.refuses(BadLot, None, fulfils, BOOK, None, None)
        self.refuses(BadLot, ("dan",), fulfils, wish=("once", 0), lot=("dan",), book=BOOK)
        self.refuses(BadWish, None, fulfils, BOOK, (), None)

    def test_nothing_passed_is_changed(self):
        for wish in (["once", 1], ["days", 1, 1], ("days", [1], 1)):
            before = repr(wish)
            for asked in (least_lots, bars, spared):
                self.refuses(BadWish, wish, asked, BOOK, wish)
            self.assertEqual(repr(wish), before)
        self.assertEqual((BOOK.clauses, BOOK.lent), ((ALONE, BOTH), ()))


if __name__ == "__main__":
    unittest.main()
