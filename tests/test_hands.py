import itertools
import unittest

import plain
from samples import (ALONE, BOOK, FOLK, KINDS, NO_PERSON, SIX, THINGS, WRONG_LOTS, Case, wrong_numbers)
from whomaysign.books import Book
from whomaysign.clauses import Clause
from whomaysign.errors import BadLot, BadNumber
from whomaysign.hands import filling, fillers, is_filling, is_short, short, signs
from whomaysign.people import all_lots

PAIRS = tuple(itertools.permutations(FOLK, 2))
ASKED = [signs, filling, short, lambda book, lot, number: is_filling(book, lot, number, None),
         lambda book, lot, number: is_short(book, lot, number, None)]
# Each of three people in a row lends a hand to the next one.
CHAIN = [("ann", "bob"), ("bob", "cat"), ("cat", "dan")]


def book_of(people, slots, lent=()):
    return Book(people, [Clause(people, slots)], lent)


def small_books():
    """Every clause with one slot or two of three people, beside some that are lent, and others."""
    lots = all_lots(FOLK)
    for slots in [(lot,) for lot in lots] + list(itertools.product(lots, repeat=2)):
        for lent in [(), PAIRS[:1], (("ann", "bob"), ("bob", "cat")), (("cat", "ann"), ("ann", "cat"))]:
            yield book_of(FOLK, slots, lent)
    yield from plain.some_books(1, 60, FOLK)
    yield from plain.some_books(2, 15, SIX)


def questions():
    for book in small_books():
        for lot in all_lots(book.people):
            for number in range(len(book)):
                yield book, lot, number


class Fillers(Case):

    def test_nothing_lent(self):
        self.assertEqual(fillers(BOOK, 0), (FOLK,))
        self.assertEqual(fillers(BOOK, 1), (("ann", "bob"), ("ann", "bob")))
        self.assertEqual(fillers(book_of(FOLK, ((), ("cat",), ())), 0), ((), ("cat",), ()))
        self.assertEqual(fillers(book_of(SIX, (SIX,) * 4), 0), (SIX,) * 4)

    def test_one_pair(self):
        self.assertEqual(fillers(BOOK.lending("bob", "cat"), 1), (FOLK, FOLK))
        book = book_of(FOLK, (("ann",), ("bob",), ("cat",), ()), [("ann", "cat")])
        self.assertEqual(fillers(book, 0), (("ann", "cat"), ("bob",), ("cat",), ()))

    def test_the_other_way_round(self):
        self.assertEqual(fillers(BOOK.lending("cat", "bob"), 1), (("ann", "bob"), ("ann", "bob")))

    def test_over_several_pairs(self):
        slots = (("ann",), ("bob",), ("cat",), ("dan",))
        self.assertEqual(fillers(book_of(SIX, slots, CHAIN), 0), (
            ("ann", "bob", "cat", "dan"), ("bob", "cat", "dan"), ("cat", "dan"), ("dan",)))
        # Against the order in which the pairs stand in the book, too.
        back = [(other, one) for one, other in CHAIN]
        self.assertEqual(fillers(book_of(SIX, slots, back), 0), (
            ("ann",), ("ann", "bob"), ("ann", "bob", "cat"), ("ann", "bob", "cat", "dan")))

    def test_the_longest_rows_of_pairs(self):
        for path in itertools.permutations(SIX):
            book = book_of(SIX, ((path[0],), (path[5],)), list(zip(path, path[1:])))
            self.assertEqual(fillers(book, 0), (SIX, (path[5],)))

    def test_in_a_ring(self):
        ring = CHAIN + [("dan", "ann")]
        four = ("ann", "bob", "cat", "dan")
        for person in four:
            self.assertEqual(fillers(book_of(SIX, ((person,), ("eve",), ()), ring), 0), (four, ("eve",), ()))
        self.assertEqual(fillers(book_of(FOLK, (("bob",),), [("ann", "bob"), ("bob", "ann")]), 0), (("ann", "bob"),))

    def test_a_row_must_not_have_a_gap(self):
        book = book_of(SIX, (("ann",),), [("ann", "bob"), ("cat", "dan"), ("dan", "eve")])
        self.assertEqual(fillers(book, 0), (("ann", "bob"),))

    def test_all_that_can_be_lent(self):
        for lent in plain.all_parts(PAIRS):
            book = book_of(FOLK, (("ann",), ("bob", "cat"), (), ("cat",)), lent)
            self.assertEqual(fillers(book, 0), plain.fillers(book, 0))

    def test_small_books(self):
        for book in small_books():
            for number in range(len(book)):
                told = fillers(book, number)
                self.assertTrue(plain.same(told, plain.fillers(book, number)))
                self.assertEqual(told, fillers(book, number))

    def test_wrong_number(self):
        for many in range(1, 6):
            book = Book(FOLK, [ALONE] * many)
            for number in wrong_numbers(many):
                self.refuses(BadNumber, number, fillers, book, number)

    def test_by_name(self):
        self.assertEqual(fillers(number=1, book=BOOK), (("ann", "bob"), ("ann", "bob")))


class Signing(Case):

    def test_of_the_example(self):
        for lot in all_lots(FOLK):
            self.assertIs(signs(BOOK, lot, 0), lot != ())
            self.assertIs(signs(BOOK, lot, 1), "ann" in lot and "bob" in lot)

    def test_nobody_signs_nothing(self):
        for many in range(1, 5):
            for slot in [(), FOLK]:
                book = book_of(FOLK, (slot,) * many)
                self.assertIs(signs(book, (), 0), False)
                self.assertIs(filling(book, (), 0), None)
                self.assertIs(signs(book, FOLK, 0), slot == FOLK and many < 4)

    def test_a_slot_that_nobody_may_fill(self):
        book = book_of(SIX, (SIX, (), SIX))
        self.assertIs(signs(book, SIX, 0), False)
        self.assertEqual(short(book, SIX, 0), (1,))

    def test_a_hand_that_is_lent_fills_one_slot_for_each_person(self):
        book = book_of(FOLK, (("ann",), ("ann",)))
        self.assertIs(signs(book, FOLK, 0), False)
        # Who lent a hand still signs, and who holds it signs beside them.
        self.assertIs(signs(book.lending("ann", "bob"), ("ann", "bob"), 0), True)
        self.assertIs(signs(book.lending("ann", "bob"), ("bob", "cat"), 0), False)
        self.assertIs(signs(book.lending("ann", "bob").lending("bob", "cat"), ("bob", "cat"), 0), True)
        self.assertIs(signs(book.lending("ann", "bob").lending("bob", "cat"), ("cat",), 0), False)

    def test_whom_one_slot_takes_is_wanted_for_another(self):
        book = book_of(SIX, (SIX, SIX[:3], SIX[:2], SIX[:1]))
        self.assertEqual(filling(book, SIX[:4], 0), ("dan", "cat", "bob", "ann"))
        self.assertIs(signs(book, ("ann", "bob", "dan", "eve"), 0), False)
        self.assertEqual(filling(book_of(FOLK, (("ann", "bob"), ("ann",))), FOLK, 0), ("bob", "ann"))

    def test_small_books(self):
        for book, lot, number in questions():
            fillings = plain.fillings(book, lot, number)
            shorts = plain.shorts(book, lot, number)
            self.assertIs(signs(book, lot, number), bool(fillings))
            told = filling(book, lot, number)
            self.assertTrue(plain.is_one_of(told, fillings) if fillings else told is None)
            lack = short(book, lot, number)
            self.assertTrue(plain.is_one_of(lack, shorts) if shorts else lack is None)
            # The fact: always a filling or a short, never both.
            self.assertIs(told is None, lack is not None)
            self.assertEqual((told, lack), (filling(book, lot, number), short(book, lot, number)))

    def test_by_name(self):
        for asked in (signs, filling, short):
            self.assertEqual(asked(number=1, lot=FOLK, book=BOOK), asked(BOOK, FOLK, 1))
        for asked in (is_filling, is_short):
            self.assertIs(asked(thing=("ann", "bob"), number=1, lot=FOLK, book=BOOK), asked is is_filling)
            self.assertIs(asked(thing=(0, 1), number=1, lot=("ann",), book=BOOK), asked is is_short)


class Judging(Case):

    def test_every_filling(self):
        for book in itertools.chain(plain.some_books(3, 40, FOLK), plain.some_books(4, 2, SIX[:4])):
            for lot in all_lots(book.people):
                for number in range(len(book)):
                    fillings = plain.fillings(book, lot, number)
                    for many in range(4):
                        for thing in itertools.product(book.people, repeat=many):
                            self.assertIs(is_filling(book, lot, number, thing), thing in fillings)

    def test_every_short(self):
        for book in plain.some_books(5, 40, FOLK):
            for lot in all_lots(book.people):
                for number in range(len(book)):
                    shorts = plain.shorts(book, lot, number)
                    for many in range(4):
                        for thing in itertools.product(range(4), repeat=many):
                            self.assertIs(is_short(book, lot, number, thing), thing in shorts, (book, thing))

    def test_what_is_told(self):
        for book, lot, number in questions():
            told = filling(book, lot, number)
            self.assertIs(is_filling(book, lot, number, told), told is not None)
            lack = short(book, lot, number)
            self.assertIs(is_short(book, lot, number, lack), lack is not None)

    def test_only_people_of_the_lot(self):
        self.assertIs(is_filling(BOOK, ("ann", "bob"), 0, ("cat",)), False)
        self.assertIs(is_filling(BOOK, ("cat",), 0, ("cat",)), True)

    def test_different_people(self):
        for person in FOLK:
            self.assertIs(is_filling(book_of(FOLK, (FOLK, FOLK)), FOLK, 0, (person, person)), False)

    def test_one_for_each_slot(self):
        for many in range(1, 5):
            book = book_of(SIX, (SIX,) * many)
            for size in range(6):
                self.assertIs(is_filling(book, SIX, 0, SIX[:size]), size == many)

    def test_a_short_is_not_empty_and_has_each_slot_once(self):
        book = book_of(FOLK, (("ann",), ("ann",), FOLK))
        self.assertEqual([thing for thing in plain.all_parts(range(3)) if is_short(book, FOLK, 0, thing)], [(0, 1)])
        for thing in [(), (0, 0), (1, 1), (0, 1, 1), (0, 0, 1), (1, 0), (2, 2, 2, 2), (0, 1, 3), (-1, 0, 1), (3,)]:
            self.assertIs(is_short(book, FOLK, 0, thing), False)

    def test_any_value(self):
        empty = book_of(FOLK, ((), ()))
        for thing in THINGS:
            self.assertIs(is_filling(BOOK, ("ann",), 0, thing), plain.same(thing, ("ann",)))
            self.assertIs(is_filling(BOOK, FOLK, 1, thing), plain.is_one_of(thing, [("ann", "bob"), ("bob", "ann")]))
            self.assertIs(is_filling(empty, FOLK, 0, thing), False)
            self.assertIs(is_short(BOOK, FOLK, 0, thing), False)
            self.assertIs(is_short(empty, FOLK, 0, thing), plain.is_one_of(thing, [(0,), (1,), (0, 1)]), thing)
        for person in NO_PERSON:
            self.assertIs(is_filling(BOOK, FOLK, 0, (person,)), False)
            self.assertIs(is_filling(BOOK, FOLK, 1, ("bob", person)), False)

    def test_right_ones_spoiled_in_one_place(self):
        for book in plain.some_books(6, 20, FOLK):
            for number in range(len(book)):
                for lot in all_lots(FOLK):
                    fillings = plain.fillings(book, lot, number)
                    shorts = plain.shorts(book, lot, number)
                    for thing in plain.spoiled((fillings + shorts)[0], KINDS):
                        self.assertIs(is_filling(book, lot, number, thing), plain.is_one_of(thing, fillings), thing)
                        self.assertIs(is_short(book, lot, number, thing), plain.is_one_of(thing, shorts), thing)

    def test_true_and_false_are_no_numbers_of_slots(self):
        empty = book_of(FOLK, ((), ()))
        self.assertIs(is_short(empty, FOLK, 0, (0, 1)), True)
        for thing in [(False, 1), (0, True), (False, True), (False,), (True,)]:
            self.assertIs(is_short(empty, FOLK, 0, thing), False)


class Refusing(Case):

    def test_lot(self):
        for lot in WRONG_LOTS:
            for asked in ASKED:
                self.refuses(BadLot, lot, asked, BOOK, lot, 0)

    def test_number(self):
        for many in (1, 2, 5):
            book = Book(FOLK, [ALONE] * many)
            for number in wrong_numbers(many):
                for asked in ASKED:
                    self.refuses(BadNumber, number, asked, book, ("ann",), number)

    def test_lot_ahead_of_number(self):
        for asked in ASKED:
            self.refuses(BadLot, None, asked, BOOK, None, None)
            self.refuses(BadLot, ("dan",), asked, BOOK, ("dan",), 2)
            self.refuses(BadNumber, 2, asked, BOOK, (), 2)
        self.refuses(BadLot, None, is_filling, BOOK, thing=("ann",), number=0, lot=None)
        self.refuses(BadNumber, True, is_short, BOOK, thing=(0,), number=True, lot=())


if __name__ == "__main__":
    unittest.main()
