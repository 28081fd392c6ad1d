import itertools
import random
import unittest

import plain
from samples import ALONE, BOOK, BOTH, FOLK, GREAT, KINDS, SIX, STRANGE, THINGS, WRONG_LOTS, Case, wrong_numbers
from whomaysign.books import Book
from whomaysign.clauses import Clause
from whomaysign.desk import Desk, tried
from whomaysign.errors import BadLot, BadNumber, BadRow, SignError
from whomaysign.people import all_lots
from whomaysign.reach import at_once, keeps, makes

ANN = (("ann",),)
CAPPED = Clause(FOLK, ANN, 5)
SUMMED = Clause(FOLK, ANN, None, ((1, 7), (7, 20)))
FREE = Clause(FOLK, ANN)
MIXED = Book(FOLK, [CAPPED, SUMMED, FREE, ALONE, BOTH], [("bob", "cat")])


def desk_of(book, *payments):
    """A desk whose payments all people sign together."""
    desk = Desk(book)
    for payment in payments:
        desk.pay(book.people, payment)
    return desk


def all_of(desk, book):
    """All that a desk tells."""
    days = (desk.day(), desk.day() + 1, desk.day() + 6, desk.day() + 7)
    return desk.row, len(desk), desk.day(), [desk.left(lot, day) for lot in all_lots(book.people) for day in days]


def most_left(book, lot, row, day):
    """The greatest amount that a lot can pay behind a row, as the document's words ask for it, None for no bound."""
    bounds = []
    for number, clause in enumerate(book.clauses):
        if plain.signs(book, lot, number):
            paid = [payment for payment in row if payment[1] == number]
            rests = [
                most - sum(amount for earlier, _, amount in paid if start <= earlier < start + days)
                for days, most in clause.sums for start in range(day - days + 1, day + 1)]
            bounds.append(min(rests + [clause.cap] * (clause.cap is not None), default=None))
    return None if None in bounds else max(bounds, default=0)


class Leading(Case):

    def test_without_a_payment(self):
        for book in (BOOK, MIXED):
            desk = Desk(book)
            self.assertTrue(plain.same(desk.row, ()))
            self.assertEqual((len(desk), desk.day()), (0, 0))
            for lot in all_lots(FOLK):
                for day in (0, 1, 7, GREAT):
                    self.assertEqual(desk.left(lot, day), at_once(book, lot))

    def test_payments(self):
        desk = Desk(BOOK)
        self.assertIsNone(desk.pay(("cat",), (0, 0, 300)))
        self.assertIsNone(desk.pay(("ann",), (0, 0, 200)))
        self.assertIsNone(desk.pay(("ann", "bob"), (2, 1, GREAT)))
        self.assertIsNone(desk.pay(FOLK, (2, 0, 1)))
        self.assertTrue(plain.same(desk.row, ((0, 0, 300), (0, 0, 200), (2, 1, GREAT), (2, 0, 1))))
        self.assertEqual((len(desk), desk.day()), (4, 2))

    def test_a_row_that_was_told_stays(self):
        desk = desk_of(BOOK, (1, 0, 5))
        row = desk.row
        desk.pay(FOLK, (1, 0, 6))
        self.assertEqual(row, ((1, 0, 5),))
        desk.undo(2)
        self.assertEqual((row, desk.row), (((1, 0, 5),), ()))
        with self.assertRaises(AttributeError):
            desk.row = row
        self.assertEqual(desk.row, ())

    def test_row_is_a_property(self):
        self.assertIsInstance(vars(Desk)["row"], property)

    def test_days_that_do_not_rise(self):
        desk = desk_of(MIXED, (3, 2, 1), (3, 2, 1), (3, 1, 1), (4, 2, 1))
        self.assertEqual(desk.day(), 4)
        for day in (0, 1, 2, 3):
            for number in range(5):
                self.refuses(BadRow, (day, number, 1), desk.pay, FOLK, (day, number, 1))
        desk.pay(FOLK, (4, 4, 1))
        desk.pay(FOLK, (GREAT, 4, 1))
        self.refuses(BadRow, (GREAT - 1, 4, 1), desk.pay, FOLK, (GREAT - 1, 4, 1))
        self.assertEqual((len(desk), desk.day()), (6, GREAT))

    def test_exactly_at_a_sum_and_one_above(self):
        for length in range(1, 8):
            book = Book(FOLK, [Clause(FOLK, ANN, None, ((length, 10),))])
            for start in (0, 5, GREAT):
                for apart in range(9):
                    day = start + apart
                    desk = desk_of(book, (start, 0, 6))
                    rest = 10 if apart >= length else 4
                    self.assertEqual(desk.left(FOLK, day), rest)
                    self.refuses(BadRow, (day, 0, rest + 1), desk.pay, FOLK, (day, 0, rest + 1))
                    desk.pay(FOLK, (day, 0, rest))
                    self.assertEqual(desk.left(FOLK, day), 0)
                    self.refuses(BadRow, (day, 0, 1), desk.pay, FOLK, (day, 0, 1))
                    self.assertEqual(desk.row, ((start, 0, 6), (day, 0, rest)))

    def test_several_payments_of_one_day(self):
        desk = Desk(MIXED)
        for paid in range(7):
            self.assertEqual(desk.left(("ann",), 2), None)
            self.refuses(BadRow, (2, 1, 8 - paid), desk.pay, FOLK, (2, 1, 8 - paid))
            desk.pay(FOLK, (2, 1, 1))
        self.refuses(BadRow, (2, 1, 1), desk.pay, FOLK, (2, 1, 1))
        desk.pay(FOLK, (3, 1, 7))
        self.refuses(BadRow, (4, 1, 7), desk.pay, FOLK, (4, 1, 7))
        desk.pay(FOLK, (4, 1, 6))
        self.refuses(BadRow, (8, 1, 1), desk.pay, FOLK, (8, 1, 1))
        # Nothing of day 2 is in the seven days up to day 9.
        desk.pay(FOLK, (9, 1, 7))
        self.assertEqual(len(desk), 10)

    def test_a_cap_is_for_each_payment(self):
        desk = Desk(MIXED)
        for _ in range(20):
            self.refuses(BadRow, (0, 0, 6), desk.pay, ("ann",), (0, 0, 6))
            desk.pay(("ann",), (0, 0, 5))
        self.assertEqual(desk.row, ((0, 0, 5),) * 20)

    def test_each_clause_by_itself(self):
        desk = desk_of(Book(FOLK, [SUMMED, SUMMED]), (0, 0, 7))
        self.assertEqual(desk.left(FOLK, 0), 7)
        desk.pay(FOLK, (0, 1, 7))
        self.assertEqual(desk.left(FOLK, 0), 0)
        desk.undo()
        self.refuses(BadRow, (0, 0, 1), desk.pay, FOLK, (0, 0, 1))

    def test_who_signs(self):
        desk = Desk(BOOK)
        for lot in all_lots(FOLK):
            for number, amount in ((0, 500), (1, GREAT)):
                if plain.signs(BOOK, lot, number):
                    desk.pay(lot, (0, number, amount))
                    desk.undo()
                else:
                    self.refuses(BadRow, (0, number, amount), desk.pay, lot, (0, number, amount))
        Desk(BOOK.lending("bob", "cat")).pay(("ann", "cat"), (0, 1, 501))
        self.refuses(BadRow, (0, 1, 501), Desk(BOOK.lending("cat", "bob")).pay, ("ann", "cat"), (0, 1, 501))

    def test_what_is_as_great_as_what_was_told(self):
        most = 7 * (10 ** 1000 - 1)
        desk = Desk(Book(FOLK, [Clause(FOLK, ANN, None, ((7, most),))]))
        desk.pay(FOLK, (most, 0, most))
        self.assertEqual(desk.left(FOLK, most + 6), 0)
        self.assertEqual(desk.left(FOLK, most + 7), most)

    def test_by_name(self):
        desk = Desk(book=BOOK)
        desk.pay(payment=(1, 0, 200), lot=("cat",))
        self.assertEqual(desk.left(day=1, lot=("cat",)), 300)
        desk.undo(many=1)
        self.assertEqual(tried(function=len, desk=desk), 0)


class Left(Case):

    def test_of_the_example(self):
        desk = desk_of(BOOK, (0, 0, 500), (1, 0, 300))
        self.assertEqual([desk.left(("cat",), day) for day in range(1, 7)], [200, 200, 500, 500, 500, 500])
        self.assertEqual([desk.left((), day) for day in range(1, 7)], [0] * 6)
        self.assertEqual([desk.left(("ann", "bob"), day) for day in range(1, 7)], [None] * 6)
        self.assertEqual(desk.left(("cat",), GREAT), 500)

    def test_nothing_is_left(self):
        desk = desk_of(BOOK, (0, 0, 500), (1, 0, 500))
        self.assertEqual([desk.left(("cat",), day) for day in range(1, 5)], [0, 0, 500, 500])

    def test_the_greatest_of_the_clauses(self):
        desk = desk_of(Book(FOLK, [CAPPED, SUMMED]), (0, 1, 4))
        self.assertEqual([desk.left(FOLK, day) for day in (0, 1)], [5, 7])
        desk.pay(FOLK, (0, 0, 5))
        self.assertEqual([desk.left(FOLK, day) for day in (0, 1)], [5, 7])
        self.assertEqual([desk.left(("bob", "cat"), day) for day in (0, 1)], [0, 0])

    def test_the_least_of_the_sums(self):
        book = Book(FOLK, [Clause(FOLK, ANN, 9, ((1, 8), (3, 12), (7, 20)))])
        desk = desk_of(book, (0, 0, 8), (1, 0, 3), (5, 0, 2))
        self.assertEqual([desk.left(FOLK, day) for day in range(5, 16)], [6, 7, 8, 8, 8, 8, 8, 8, 8, 8, 8])
        self.assertEqual(desk_of(book, (0, 0, 8)).left(FOLK, 2), 4)
        self.assertEqual(desk_of(book, (0, 0, 7)).left(FOLK, 0), 1)

    def test_wrong_days(self):
        desk = Desk(BOOK)
        for day in STRANGE + ["0", (0,), -GREAT]:
            if not plain.whole(day):
                self.refuses(BadNumber, day, desk.left, FOLK, day)
        desk.pay(FOLK, (5, 0, 1))
        for day in STRANGE + [-1, 0, 1, 4, "5", (5,), [5]]:
            if not plain.whole(day, 5):
                self.refuses(BadNumber, day, desk.left, FOLK, day)
        self.assertEqual([desk.left(("cat",), day) for day in (5, 6, GREAT)], [499, 500, 500])


class Undo(Case):

    def test_one_and_many_and_all(self):
        row = tuple((day, 0, 100) for day in range(6))
        for many in range(1, 7):
            desk = desk_of(BOOK, *row)
            self.assertIsNone(desk.undo(many))
            self.assertEqual((desk.row, len(desk)), (row[:6 - many], 6 - many))
            self.assertEqual(all_of(desk, BOOK), all_of(desk_of(BOOK, *row[:6 - many]), BOOK))
        desk = desk_of(BOOK, *row)
        for many in range(5, -1, -1):
            self.assertIsNone(desk.undo())
            self.assertEqual((desk.row, desk.day()), (row[:many], max(0, many - 1)))
        self.refuses(BadNumber, 1, desk.undo)

    def test_what_was_taken_back_may_be_paid_again(self):
        desk = desk_of(BOOK, (0, 0, 500), (1, 0, 500))
        desk.undo()
        # The day goes back, too.
        desk.pay(FOLK, (0, 1, 5))
        desk.pay(FOLK, (1, 0, 500))
        self.refuses(BadRow, (2, 0, 1), desk.pay, FOLK, (2, 0, 1))
        self.assertEqual(desk.row, ((0, 0, 500), (0, 1, 5), (1, 0, 500)))

    def test_wrong_numbers(self):
        for many in range(5):
            desk = desk_of(BOOK, *[(day, 0, 1) for day in range(many)])
            before = all_of(desk, BOOK)
            for wrong in wrong_numbers(many + 1) + [0]:
                self.refuses(BadNumber, wrong, desk.undo, wrong)
            self.assertEqual(all_of(desk, BOOK), before)


class Equality(Case):

    def test_equal(self):
        for row in [(), ((0, 0, 500),), ((0, 0, 500), (1, 1, GREAT))]:
            one, other = desk_of(BOOK, *row), desk_of(Book(FOLK, [ALONE, BOTH]), *row)
            self.assertIs(one == other, True)
            self.assertIs(one != other, False)
            self.assertIs(one == one, True)

    def test_whoever_signed_and_whatever_was_taken_back(self):
        one, other = Desk(BOOK), Desk(BOOK)
        one.pay(("ann",), (0, 0, 5))
        other.pay(("cat",), (0, 0, 5))
        self.assertIs(one == other, True)
        other.pay(FOLK, (9, 1, 5))
        self.assertIs(one == other, False)
        other.undo()
        self.assertIs(one == other, True)
        with other.trial():
            other.undo()
            self.assertIs(one == other, False)
        self.assertIs(one == other, True)

    def test_book_and_row_count(self):
        one = desk_of(BOOK, (0, 0, 5))
        for other in [
                Desk(BOOK), desk_of(BOOK, (0, 0, 6)), desk_of(BOOK, (0, 0, 5), (0, 0, 5)), desk_of(BOOK, (1, 0, 5)),
                desk_of(BOOK, (0, 1, 5)), desk_of(BOOK.adding(ALONE), (0, 0, 5)),
                desk_of(BOOK.lending("ann", "bob"), (0, 0, 5))]:
            self.assertIs(one == other, False)
            self.assertIs(other == one, False)
            self.assertIs(one != other, True)

    def test_other_values(self):
        desk = desk_of(BOOK, (0, 0, 5))
        for value in STRANGE + [desk.row, list(desk.row), (BOOK, desk.row)]:
            self.assertIs(desk == value, False)
            self.assertIs(value == desk, False)
            self.assertIs(desk != value, True)
            self.assertIs(value != desk, True)


class Trials(Case):

    def test_the_block_gets_the_desk_itself(self):
        desk = Desk(BOOK)
        with desk.trial() as same:
            self.assertIs(same, desk)

    def test_payments_are_gone(self):
        desk = desk_of(BOOK, (0, 0, 400))
        before = all_of(desk, BOOK)
        with desk.trial() as same:
            same.pay(FOLK, (0, 0, 100))
            desk.pay(FOLK, (7, 1, 5))
            self.assertEqual(desk.row, ((0, 0, 400), (0, 0, 100), (7, 1, 5)))
            self.refuses(BadRow, (6, 1, 5), same.pay, FOLK, (6, 1, 5))
        self.assertEqual(all_of(desk, BOOK), before)
        # It is led on as if nothing had been tried.
        self.refuses(BadRow, (0, 0, 101), desk.pay, FOLK, (0, 0, 101))
        desk.pay(FOLK, (0, 0, 100))
        self.assertEqual(desk.row, ((0, 0, 400), (0, 0, 100)))

    def test_undo_of_what_was_ahead(self):
        desk = desk_of(BOOK, (0, 0, 400), (1, 1, 9), (2, 0, 300))
        before = all_of(desk, BOOK)
        with desk.trial():
            desk.undo(2)
            self.assertEqual(desk.row, ((0, 0, 400),))
            desk.pay(FOLK, (0, 0, 100))
            desk.pay(FOLK, (1, 0, 500))
            desk.undo(3)
            self.assertEqual(desk.row, ())
            self.refuses(BadNumber, 1, desk.undo)
            desk.pay(FOLK, (0, 1, 1))
        self.assertEqual(all_of(desk, BOOK), before)
        desk.undo(3)
        self.assertEqual(desk.row, ())

    def test_in_one_another(self):
        desk = desk_of(BOOK, (0, 0, 1))
        with desk.trial():
            desk.pay(FOLK, (0, 0, 2))
            with desk.trial() as same:
                self.assertIs(same, desk)
                desk.undo(2)
                with desk.trial():
                    desk.pay(FOLK, (4, 1, 4))
                    self.assertEqual(desk.row, ((4, 1, 4),))
                self.assertEqual(desk.row, ())
                desk.pay(FOLK, (3, 0, 3))
            self.assertEqual(desk.row, ((0, 0, 1), (0, 0, 2)))
            desk.undo()
            with desk.trial():
                desk.pay(FOLK, (5, 0, 5))
            self.assertEqual(desk.row, ((0, 0, 1),))
            desk.undo()
        self.assertEqual(desk.row, ((0, 0, 1),))
        with desk.trial() as one, desk.trial() as other:
            self.assertIs(one, other)
            desk.undo()
        self.assertEqual(desk.row, ((0, 0, 1),))

    def test_one_behind_another(self):
        desk = Desk(BOOK)
        for day in range(5):
            with desk.trial():
                desk.pay(FOLK, (day, 0, 500))
            self.assertEqual(len(desk), day)
            desk.pay(FOLK, (day, 1, 1))

    def test_an_exception_passes(self):
        desk = desk_of(BOOK, (0, 0, 1), (1, 0, 1))
        for error in (KeyError("x"), ValueError(), KeyboardInterrupt(), BadNumber(5)):
            with self.assertRaises(type(error)) as caught:
                with desk.trial():
                    desk.undo(2)
                    desk.pay(FOLK, (0, 1, 7))
                    raise error
            self.assertIs(caught.exception, error)
            self.assertEqual(desk.row, ((0, 0, 1), (1, 0, 1)))

    def test_an_exception_out_of_several_trials(self):
        desk = desk_of(BOOK, (0, 0, 1))
        with self.assertRaises(ZeroDivisionError):
            with desk.trial():
                desk.pay(FOLK, (0, 0, 2))
                with desk.trial():
                    desk.undo(2)
                    1 // 0
        self.assertEqual(desk.row, ((0, 0, 1),))
        with desk.trial():
            desk.undo()
            with self.assertRaises(ZeroDivisionError):
                with desk.trial():
                    desk.pay(FOLK, (0, 0, 2))
                    1 // 0
            self.assertEqual(desk.row, ())
        self.assertEqual(desk.row, ((0, 0, 1),))

    def test_a_refusal_passes(self):
        desk = desk_of(BOOK, (0, 0, 400))
        for error, call in [
                (BadRow, lambda: desk.pay(FOLK, (0, 0, 500))), (BadLot, lambda: desk.pay(None, None)),
                (BadNumber, lambda: desk.undo(3)), (BadNumber, lambda: desk.left(FOLK, -1))]:
            with self.assertRaises(error):
                with desk.trial():
                    desk.pay(FOLK, (0, 0, 50))
                    call()
            self.assertEqual(desk.row, ((0, 0, 400),))

    def test_left_by_return_break_and_continue(self):
        desk = desk_of(BOOK, (0, 0, 1))

        def first_left():
            with desk.trial():
                desk.undo()
                return desk.left(("cat",), 0)

        self.assertEqual(first_left(), 500)
        self.assertEqual(desk.row, ((0, 0, 1),))
        for leave in (True, False):
            for _ in range(2):
                with desk.trial():
                    desk.pay(FOLK, (0, 0, 1))
                    if leave:
                        break
                    continue
            self.assertEqual(desk.row, ((0, 0, 1),))

    def test_several_desks(self):
        one, other = desk_of(BOOK, (0, 0, 1)), desk_of(BOOK, (0, 0, 2))
        with one.trial():
            one.undo()
            other.pay(FOLK, (0, 0, 3))
            with other.trial():
                other.undo(2)
                one.pay(FOLK, (4, 0, 4))
            self.assertEqual((one.row, other.row), (((4, 0, 4),), ((0, 0, 2), (0, 0, 3))))
        self.assertEqual((one.row, other.row), (((0, 0, 1),), ((0, 0, 2), (0, 0, 3))))


class Tried(Case):

    def test_what_is_returned(self):
        desk = desk_of(BOOK, (0, 0, 1))
        self.assertIs(tried(desk, lambda same: same), desk)
        self.assertIsNone(tried(desk, lambda same: same.pay(FOLK, (0, 0, 2))))
        self.assertIsNone(tried(desk, Desk.undo))
        self.assertEqual(tried(desk, len), 1)
        for value in STRANGE:
            self.assertIs(tried(desk, lambda same: value), value)
        self.assertEqual(desk.row, ((0, 0, 1),))

    def test_it_is_a_trial(self):
        desk = desk_of(BOOK, (0, 0, 1))

        def turn(same):
            same.undo()
            same.pay(("cat",), (0, 0, 7))
            inner = tried(same, lambda again: (again.undo(), again.row))
            return same.row, inner, same.left(("cat",), 0)

        self.assertEqual(tried(desk, turn), (((0, 0, 7),), (None, ()), 493))
        self.assertEqual(desk.row, ((0, 0, 1),))

    def test_an_exception_passes(self):
        desk = desk_of(BOOK, (0, 0, 1))
        error = LookupError()

        def fail(same):
            same.undo()
            raise error

        with self.assertRaises(LookupError) as caught:
            tried(desk, fail)
        self.assertIs(caught.exception, error)
        self.assertEqual(desk.row, ((0, 0, 1),))
        self.refuses(BadNumber, 2, tried, desk, lambda same: same.undo(2))
        self.assertEqual(desk.row, ((0, 0, 1),))


class Refusing(Case):

    def unchanged(self, desk, book, before):
        self.assertEqual(all_of(desk, book), before)

    def test_lot(self):
        desk = desk_of(BOOK, (0, 0, 300))
        before = all_of(desk, BOOK)
        for lot in WRONG_LOTS:
            self.refuses(BadLot, lot, desk.left, lot, 0)
            self.refuses(BadLot, lot, desk.pay, lot, (0, 0, 1))
        self.unchanged(desk, BOOK, before)

    def test_lot_ahead(self):
        desk = desk_of(BOOK, (3, 0, 1))
        self.refuses(BadLot, None, desk.left, None, None)
        self.refuses(BadLot, ("dan",), desk.left, day=2, lot=("dan",))
        self.refuses(BadLot, None, desk.pay, None, None)
        self.refuses(BadLot, ("dan",), desk.pay, payment=(3, 0, 501), lot=("dan",))
        self.refuses(BadNumber, 2, desk.left, (), 2)
        self.refuses(BadRow, None, desk.pay, (), None)
        self.assertEqual(desk.row, ((3, 0, 1),))

    def test_any_value_is_no_payment(self):
        desk = desk_of(BOOK, (0, 0, 300))
        before = all_of(desk, BOOK)
        for thing in THINGS + [((0, 0, 1),), ((0, 0, 1), (0, 0, 1))]:
            if not plain.same(thing, (0, 0, 1)):
                self.refuses(BadRow, thing, desk.pay, FOLK, thing)
                self.refuses(BadRow, (thing, 0, 1), desk.pay, (), (thing, 0, 1))
        self.unchanged(desk, BOOK, before)

    def test_right_ones_spoiled_in_one_place(self):
        for lot in all_lots(FOLK):
            for right in [(4, 0, 200), (4, 1, 1), (5, 1, GREAT), (4, 0, 1)]:
                row = ((0, 1, 9), (4, 0, 300))
                for payment in plain.spoiled(right, KINDS + [200, 201, 3]):
                    desk = desk_of(BOOK, *row)
                    if plain.makes(BOOK, FOLK, row + (payment,)) and plain.signs(BOOK, lot, payment[1]):
                        desk.pay(lot, payment)
                        self.assertEqual(desk.row, row + (payment,))
                    else:
                        self.refuses(BadRow, payment, desk.pay, lot, payment)
                        self.assertEqual(desk.row, row)

    def test_true_and_false_are_no_numbers(self):
        desk = Desk(BOOK)
        for payment in [(False, 0, 1), (0, False, 1), (0, 0, True), (True, 1, 1), (1, True, 1)]:
            self.refuses(BadRow, payment, desk.pay, FOLK, payment)
        desk.pay(FOLK, (0, 0, 1))
        self.refuses(BadNumber, True, desk.undo, True)
        self.refuses(BadNumber, False, desk.left, FOLK, False)

    def test_numbers_of_clauses(self):
        for many in range(1, 6):
            desk = Desk(Book(FOLK, [FREE] * many))
            for number in range(-6, 7):
                if 0 <= number < many:
                    desk.pay(FOLK, (0, number, 1))
                else:
                    self.refuses(BadRow, (0, number, 1), desk.pay, FOLK, (0, number, 1))
            self.assertEqual(len(desk), many)


class Random(Case):

    def some_step(self, chance, desk, book, row):
        """Does something at a desk, and gives the row that is awaited then."""
        lot = plain.some_lot(chance, book.people) if chance.random() < 0.3 else book.people
        if chance.random() < 0.2:
            many = chance.randint(0, 3)
            if 1 <= many <= len(row):
                self.assertIsNone(desk.undo(many))
                return row[:-many]
            self.refuses(BadNumber, many, desk.undo, many)
            return row
        day = (row[-1][0] if row else 0) + chance.choice((-1, 0, 0, 0, 1, 1, 2, 5, 9))
        payment = (day, chance.randrange(len(book)), chance.choice((1, 1, 2, 3)))
        more = row + (payment,)
        if plain.keeps(book, more) and plain.signs(book, lot, payment[1]):
            self.assertIsNone(desk.pay(lot, payment))
            return more
        self.refuses(BadRow, payment, desk.pay, lot, payment)
        return row

    def judge(self, desk, book, row):
        last = row[-1][0] if row else 0
        self.assertTrue(plain.same((desk.row, len(desk), desk.day()), (row, len(row), last)))
        self.assertIs(keeps(book, desk.row), True)
        self.assertIs(makes(book, book.people, desk.row), True)

    def lead(self, chance, desk, book, row, depth):
        for _ in range(chance.randint(1, 12)):
            row = self.some_step(chance, desk, book, row)
            self.judge(desk, book, row)
            if depth and chance.random() < 0.15:
                with desk.trial():
                    self.lead(chance, desk, book, row, depth - 1)
                self.judge(desk, book, row)
        last = row[-1][0] if row else 0
        for day in (last, last + chance.randint(1, 8)):
            for lot in all_lots(book.people):
                self.assertEqual(desk.left(lot, day), most_left(book, lot, row, day))
        return row

    def test_beside_a_plain_count(self):
        chance = random.Random(61)
        books = [BOOK, MIXED, Book(FOLK, [Clause(FOLK, (FOLK,), 3, ((1, 3), (4, 6), (7, 9)))] * 2)]
        books += list(itertools.chain(plain.some_books(62, 150, FOLK, 6), plain.some_books(63, 6, SIX, 6)))
        paid = 0
        for book in books:
            desk = Desk(book)
            row = ()
            for _ in range(3):
                row = self.lead(chance, desk, book, row, 2)
                paid += len(row)
            self.assertEqual(desk, desk_of(book, *row))
        self.assertGreater(paid, 1000)

    def test_left_is_just_what_can_be_paid(self):
        chance = random.Random(64)
        for book in itertools.chain([BOOK, MIXED], plain.some_books(65, 60, FOLK, 6)):
            desk = Desk(book)
            for _ in range(8):
                day = desk.day() + chance.choice((0, 0, 1, 3))
                number = chance.randrange(len(book))
                for lot in all_lots(FOLK):
                    left = desk.left(lot, day)
                    for amount in [1, 7, 600] if left is None else [left, left + 1]:
                        paid = 0
                        for at in range(len(book)):
                            paid += amount > 0 and tried(desk, lambda same: self.pays(same, lot, (day, at, amount)))
                        self.assertIs(bool(paid), left is None or 0 < amount <= left)
                self.pays(desk, FOLK, (day, number, chance.randint(1, 6)))

    def pays(self, desk, lot, payment):
        """Whether a payment is led."""
        try:
            desk.pay(lot, payment)
        except SignError:
            return False
        return True


if __name__ == "__main__":
    unittest.main()
