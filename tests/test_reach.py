import itertools
import random
import unittest

import plain
from samples import (ALONE, BOOK, BOTH, FOLK, GREAT, KINDS, SIX, THINGS, WRONG_LOTS, Case, wrong_numbers)
from whomaysign.books import Book
from whomaysign.clauses import Clause
from whomaysign.errors import BadLot, BadNumber
from whomaysign.people import all_lots
from whomaysign.reach import at_once, gathers, keeps, makes

ANN = (("ann",),)
CAPPED = Clause(FOLK, ANN, 5)
SUMMED = Clause(FOLK, ANN, None, ((1, 7), (7, 20)))
FREE = Clause(FOLK, ANN)


def row_of(*payments):
    return tuple(payments)


def small_books():
    yield from plain.some_books(11, 60, FOLK)
    yield from plain.some_books(12, 8, SIX)


def books():
    yield from (BOOK, BOOK.lending("bob", "cat"), Book(FOLK, [CAPPED, SUMMED, FREE, ALONE, BOTH]))
    yield from small_books()


def some_row(chance, book):
    """A row of the book's numbers, that keeps it or not."""
    days = sorted(chance.randint(0, 9) for _ in range(chance.randint(0, 6)))
    return tuple((day, chance.randrange(len(book)), chance.choice((1, 1, 1, 2, 3))) for day in days)


class Keeps(Case):

    def test_the_empty_row(self):
        for book in books():
            self.assertIs(keeps(book, ()), True)

    def test_cap(self):
        book = Book(FOLK, [CAPPED, FREE])
        self.assertIs(keeps(book, row_of((0, 0, 5))), True)
        self.assertIs(keeps(book, row_of((0, 0, 6))), False)
        self.assertIs(keeps(book, row_of((0, 1, GREAT))), True)
        # A cap is for each payment, however many there are.
        self.assertIs(keeps(book, ((0, 0, 5),) * 1000), True)
        self.assertIs(keeps(book, ((0, 0, 5),) * 1000 + ((0, 0, 6),)), False)
        self.assertIs(keeps(book, ((0, 0, 6),) + ((0, 0, 5),) * 1000), False)

    def test_a_total_just_at_a_sum_and_one_above(self):
        book = Book(FOLK, [SUMMED])
        self.assertIs(keeps(book, row_of((3, 0, 7))), True)
        self.assertIs(keeps(book, row_of((3, 0, 8))), False)
        self.assertIs(keeps(book, row_of((0, 0, 7), (1, 0, 7), (2, 0, 6))), True)
        self.assertIs(keeps(book, row_of((0, 0, 7), (1, 0, 7), (2, 0, 7))), False)

    def test_the_edges_of_so_many_days(self):
        for length in range(1, 8):
            book = Book(FOLK, [Clause(FOLK, ANN, None, ((length, 10),))])
            for start in (0, 1, 5, GREAT):
                for apart in range(9):
                    row = row_of((start, 0, 6), (start + apart, 0, 5))
                    self.assertIs(keeps(book, row), apart >= length, row)
                    self.assertIs(keeps(book, row_of((start, 0, 6), (start + apart, 0, 4))), True)

    def test_several_payments_of_one_day_and_clause(self):
        book = Book(FOLK, [SUMMED])
        self.assertIs(keeps(book, row_of((4, 0, 3), (4, 0, 3), (4, 0, 1))), True)
        self.assertIs(keeps(book, row_of((4, 0, 3), (4, 0, 3), (4, 0, 2))), False)
        self.assertIs(keeps(book, ((4, 0, 1),) * 7), True)
        self.assertIs(keeps(book, ((4, 0, 1),) * 8), False)
        # What is paid once more on a day that had enough counts, too.
        self.assertIs(keeps(book, row_of((0, 0, 7), (0, 0, 1), (9, 0, 1))), False)

    def test_each_clause_by_itself(self):
        book = Book(FOLK, [SUMMED, SUMMED, CAPPED])
        self.assertIs(keeps(book, row_of((0, 0, 7), (0, 1, 7), (0, 2, 5))), True)
        self.assertIs(keeps(book, row_of((0, 0, 7), (0, 1, 8), (0, 2, 5))), False)
        self.assertIs(keeps(book, row_of((0, 0, 7), (0, 1, 7), (0, 2, 6))), False)

    def test_each_sum_by_itself(self):
        book = Book(FOLK, [Clause(FOLK, ANN, None, ((1, 3), (3, 5), (7, 6)))])
        for row, right in [
                (((0, 0, 3), (1, 0, 2)), True), (((0, 0, 4),), False), (((0, 0, 3), (2, 0, 3)), False),
                (((0, 0, 3), (3, 0, 3)), True), (((0, 0, 3), (3, 0, 3), (6, 0, 1)), False),
                (((0, 0, 3), (3, 0, 3), (7, 0, 1)), True)]:
            self.assertIs(keeps(book, row), right, row)

    def test_days_never_fall(self):
        self.assertIs(keeps(BOOK, row_of((0, 1, 5), (0, 1, 5), (2, 1, 5))), True)
        self.assertIs(keeps(BOOK, row_of((0, 1, 5), (2, 1, 5), (1, 1, 5))), False)
        self.assertIs(keeps(BOOK, row_of((2, 1, 5), (0, 0, 5))), False)
        # Only the days must not fall.
        self.assertIs(keeps(BOOK, row_of((2, 1, 5), (2, 0, 5), (2, 1, 1), (2, 0, 9))), True)

    def test_numbers_of_clauses(self):
        for many in range(1, 6):
            for number in range(-6, 7):
                self.assertIs(keeps(Book(FOLK, [FREE] * many), row_of((0, number, 1))), 0 <= number < many)

    def test_no_sum_and_no_cap(self):
        self.assertIs(keeps(BOOK, row_of((0, 1, GREAT), (0, 1, GREAT), (GREAT, 1, GREAT))), True)

    def test_many_figures(self):
        clause = Clause(FOLK, ANN, GREAT, ((1, 2 * GREAT), (7, 3 * GREAT)))
        book = Book(FOLK, [clause])
        paid = row_of((5, 0, GREAT), (5, 0, GREAT), (11, 0, GREAT))
        self.assertIs(keeps(book, paid), True)
        self.assertIs(keeps(book, row_of((5, 0, 1)) + paid), False)
        self.assertIs(keeps(book, paid + row_of((11, 0, 1))), False)
        self.assertIs(keeps(book, paid + row_of((12, 0, GREAT + 1))), False)
        self.assertIs(keeps(book, paid + row_of((12, 0, GREAT))), True)

    def test_rows_of_small_numbers(self):
        chance = random.Random(13)
        told = []
        for book in books():
            for _ in range(60):
                row = some_row(chance, book)
                told.append(keeps(book, row))
                self.assertIs(told[-1], plain.keeps(book, row), row)
        # Both answers are tried often.
        self.assertGreater(min(told.count(True), told.count(False)), 500)

    def test_every_row_of_two_payments(self):
        book = Book(FOLK, [Clause(FOLK, ANN, 2, ((1, 3), (2, 4)))])
        for row in itertools.product(itertools.product(range(4), [0], range(4)), repeat=2):
            self.assertIs(keeps(book, row), plain.keeps(book, row), row)

    def test_any_value(self):
        right = [(), ((0, 0, 1),)]
        for thing in THINGS:
            self.assertIs(keeps(BOOK, thing), plain.is_one_of(thing, right), thing)
            self.assertIs(keeps(BOOK, (thing,)), plain.same((thing,), right[1]), thing)
            self.assertIs(keeps(BOOK, ((0, 1, 1), thing)), plain.same((thing,), right[1]), thing)

    def test_right_ones_spoiled_in_one_place(self):
        for row in [((0, 0, 1),), ((0, 1, 1), (1, 0, 500), (1, 0, 1)), ((1, 1, GREAT), (1, 0, 500), (3, 0, 500))]:
            self.assertIs(keeps(BOOK, row), plain.keeps(BOOK, row))
            for thing in plain.spoiled(row, KINDS):
                self.assertIs(keeps(BOOK, thing), plain.keeps(BOOK, thing), thing)

    def test_true_and_false_are_no_numbers(self):
        for row in [((0, 0, True),), ((0, False, 1),), ((False, 0, 1),), ((0, True, 1),), ((True, 0, 1),)]:
            self.assertIs(keeps(BOOK, row), False)

    def test_by_name(self):
        self.assertIs(keeps(row=((0, 0, 501),), book=BOOK), False)


class Makes(Case):

    def test_who_signs(self):
        self.assertIs(makes(BOOK, ("cat",), row_of((0, 0, 500))), True)
        self.assertIs(makes(BOOK, ("cat",), row_of((0, 1, 500))), False)
        self.assertIs(makes(BOOK, ("ann", "bob"), row_of((0, 1, 501), (0, 0, 500))), True)
        self.assertIs(makes(BOOK, ("ann", "cat"), row_of((0, 1, 501), (0, 0, 500))), False)
        self.assertIs(makes(BOOK.lending("bob", "cat"), ("ann", "cat"), row_of((0, 1, 501), (0, 0, 500))), True)

    def test_what_does_not_keep_the_book(self):
        self.assertIs(makes(BOOK, FOLK, row_of((0, 0, 501))), False)
        self.assertIs(makes(BOOK, FOLK, row_of((0, 0, 500), (0, 0, 1))), False)

    def test_the_empty_row(self):
        for book in books():
            for lot in all_lots(book.people):
                self.assertIs(makes(book, lot, ()), True)

    def test_rows_of_small_numbers(self):
        chance = random.Random(14)
        told = []
        for book in books():
            for lot in all_lots(book.people):
                for _ in range(8):
                    row = some_row(chance, book)[:3]
                    told.append(makes(book, lot, row))
                    self.assertIs(told[-1], plain.makes(book, lot, row))
        self.assertGreater(min(told.count(True), told.count(False)), 500)

    def test_any_value(self):
        right = [(), ((0, 0, 1),)]
        for thing in THINGS:
            self.assertIs(makes(BOOK, FOLK, thing), plain.is_one_of(thing, right), thing)
            self.assertIs(makes(BOOK, (), thing), plain.same(thing, ()), thing)
            self.assertIs(makes(BOOK, FOLK, (thing,)), plain.same((thing,), right[1]), thing)

    def test_right_ones_spoiled_in_one_place(self):
        row = ((0, 1, 1), (1, 0, 500), (1, 0, 1))
        for lot in all_lots(FOLK):
            for thing in plain.spoiled(row, KINDS):
                self.assertIs(makes(BOOK, lot, thing), plain.makes(BOOK, lot, thing), thing)

    def test_by_name(self):
        self.assertIs(makes(row=((0, 1, 1),), lot=("ann", "bob"), book=BOOK), True)
        self.refuses(BadLot, None, makes, row=None, lot=None, book=BOOK)


class AtOnce(Case):

    def test_of_the_example(self):
        self.assertEqual([at_once(BOOK, lot) for lot in all_lots(FOLK)], [0, 500, None, None, 500, 500, 500, 500])

    def test_the_least_of_cap_and_sums(self):
        for cap, sums, most in [
                (None, (), None), (5, (), 5), (None, ((1, 7),), 7), (None, ((3, 7),), 7), (5, ((1, 7),), 5),
                (9, ((1, 7),), 7), (9, ((1, 7), (2, 6)), 6), (9, ((1, 7), (2, 8), (7, 5)), 5), (1, ((7, 1),), 1),
                (GREAT, ((1, GREAT + 1),), GREAT), (GREAT, ((1, GREAT + 1), (7, GREAT - 1)), GREAT - 1)]:
            book = Book(FOLK, [Clause(FOLK, ANN, cap, sums)])
            self.assertEqual(at_once(book, ("ann",)), most)
            self.assertEqual(at_once(book, FOLK), most)
            self.assertEqual(at_once(book, ("bob", "cat")), 0)
            self.assertEqual(at_once(book, ()), 0)

    def test_the_greatest_of_the_clauses(self):
        self.assertEqual(at_once(Book(FOLK, [CAPPED, SUMMED]), ("ann",)), 7)
        self.assertEqual(at_once(Book(FOLK, [SUMMED, CAPPED]), ("ann",)), 7)
        self.assertIs(at_once(Book(FOLK, [CAPPED, FREE, SUMMED]), ("ann",)), None)

    def test_books(self):
        for book in books():
            for lot in all_lots(book.people):
                most = at_once(book, lot)
                self.assertEqual(most, at_once(book, lot))
                if most is None:
                    self.assertTrue(plain.pays_at_once(book, lot, GREAT))
                else:
                    self.assertTrue(plain.whole(most))
                    self.assertTrue(most == 0 or plain.pays_at_once(book, lot, most))
                    self.assertFalse(plain.pays_at_once(book, lot, most + 1))
                # One payment of so much is just what the lot makes by some clause.
                for amount in (1, 2, 3, 4):
                    made = any(makes(book, lot, ((0, number, amount),)) for number in range(len(book)))
                    self.assertIs(made, most is None or most >= amount)

    def test_by_name(self):
        self.assertEqual(at_once(lot=("cat",), book=BOOK), 500)


class Gathers(Case):

    def test_of_the_example(self):
        self.assertEqual(gathers(BOOK, ("cat",), 7), 2500)
        self.assertIs(gathers(BOOK, ("ann", "bob"), 7), None)
        self.assertEqual(gathers(BOOK, (), 7), 0)
        self.assertEqual([gathers(BOOK, ("ann", "cat"), days) for days in range(5)], [0, 500, 1000, 1000, 1500])

    def test_no_days(self):
        for book in books():
            for lot in all_lots(book.people):
                self.assertEqual(gathers(book, lot, 0), 0)

    def test_over_the_clauses_that_are_signed(self):
        two = Book(FOLK, [Clause(FOLK, (("bob",),), 1, ((7, 100),)), SUMMED, ALONE])
        for days, most in [
                (1, (500, 507, 600, 607)), (8, (3000, 3027, 3200, 3227)), (60, (20000, 20180, 20900, 21080))]:
            lots = [("cat",), ("ann", "cat"), ("bob", "cat"), FOLK]
            self.assertEqual(tuple(gathers(two, lot, days) for lot in lots), most)

    def test_a_cap_alone_is_no_bound(self):
        self.assertIs(gathers(Book(FOLK, [CAPPED]), ("ann",), 1), None)
        self.assertIs(gathers(Book(FOLK, [SUMMED, CAPPED]), ("ann",), 1), None)
        self.assertEqual(gathers(Book(FOLK, [SUMMED, CAPPED]), ("bob",), 1), 0)

    def test_a_plain_count(self):
        for book in small_books():
            for lot in all_lots(book.people):
                for days in range(4):
                    told = gathers(book, lot, days)
                    self.assertEqual(told, plain.gathers(book, lot, days))
                    self.assertEqual(told, plain.gathers(book, lot, days, plain.cheapest))
                    self.assertEqual(told, gathers(book, lot, days))

    def test_the_rows_that_a_lot_makes(self):
        """All rows of at most three payments, beside what a lot gathers with sums that need no more."""
        capped = Clause(("a",), (("a",),), 1, ((1, 2), (2, 2)))
        book = Book(("a",), [capped, Clause(("a",), (("a",),), None, ((2, 1),))])
        payments = list(itertools.product(range(2), range(2), (1, 2)))
        for days in range(3):
            rows = (row for many in range(4) for row in itertools.product(payments, repeat=many))
            totals = [
                sum(amount for _, _, amount in row) for row in rows
                if makes(book, ("a",), row) and all(day < days for day, _, _ in row)]
            self.assertEqual(max(totals), gathers(book, ("a",), days))

    def test_many_days_and_figures(self):
        book = Book(FOLK, [Clause(FOLK, ANN, 1, ((2, GREAT),)), Clause(FOLK, (("bob",),), None, ((7, GREAT + 1),))])
        self.assertEqual(gathers(book, FOLK, 1000), 500 * GREAT + 143 * (GREAT + 1))
        self.assertEqual(gathers(book, ("bob",), 60), 9 * (GREAT + 1))

    def test_by_name(self):
        self.assertEqual(gathers(days=7, lot=("cat",), book=BOOK), 2500)


class Refusing(Case):

    def test_lot(self):
        for lot in WRONG_LOTS:
            self.refuses(BadLot, lot, makes, BOOK, lot, ())
            self.refuses(BadLot, lot, at_once, BOOK, lot)
            self.refuses(BadLot, lot, gathers, BOOK, lot, 1)

    def test_days(self):
        for days in wrong_numbers(1001):
            self.refuses(BadNumber, days, gathers, BOOK, ("ann",), days)
            self.refuses(BadNumber, days, gathers, BOOK, (), days)

    def test_lot_ahead(self):
        self.refuses(BadLot, ("dan",), gathers, BOOK, ("dan",), 1001)
        self.refuses(BadLot, None, gathers, BOOK, None, None)
        self.refuses(BadLot, None, makes, BOOK, None, None)
        self.refuses(BadNumber, 1001, gathers, BOOK, FOLK, 1001)


if __name__ == "__main__":
    unittest.main()
