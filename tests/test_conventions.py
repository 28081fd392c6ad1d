import copy
import operator
import unittest

from samples import (ALONE, BOOK, BOTH, FOLK, STRANGE, WRONG_LENT, WRONG_PEOPLE, WRONG_SLOTS, WRONG_SUMS, Case)
from whomaysign.books import Book
from whomaysign.clauses import Clause
from whomaysign.errors import SignError
from whomaysign.people import all_lots, is_lot, need_people

SIGNS = [
    operator.add, operator.sub, operator.mul, operator.floordiv, operator.truediv, operator.mod, operator.pow,
    operator.and_, operator.or_, operator.xor, operator.lshift, operator.rshift, operator.matmul, divmod,
    operator.lt, operator.le, operator.gt, operator.ge,
    operator.iadd, operator.isub, operator.imul, operator.ior, operator.iand, operator.ixor,
]
ALL_OF_ONE = [operator.neg, operator.pos, operator.invert, abs, int, operator.index]


class Signs(Case):

    def test_beside_any_value(self):
        for own in (ALONE, BOOK):
            for value in STRANGE + [(), (ALONE,), FOLK]:
                for sign in SIGNS:
                    with self.assertRaises(TypeError):
                        sign(own, value)
                    # Text formatting answers before a book is asked.
                    if not (own is BOOK and sign is operator.mod and isinstance(value, (str, bytes))):
                        with self.assertRaises(TypeError):
                            sign(copy.copy(value) if isinstance(value, (list, dict, set)) else value, own)

    def test_alone(self):
        for own in (ALONE, BOOK):
            for sign in ALL_OF_ONE:
                with self.assertRaises(TypeError):
                    sign(own)

    def test_no_iterating(self):
        for own in (ALONE, BOOK):
            for over in (iter, list, tuple, sorted, sum, enumerate, zip, dict, set, any, max):
                with self.assertRaises(TypeError):
                    over(own)
            with self.assertRaises(TypeError):
                for _ in own:
                    pass
            with self.assertRaises(TypeError):
                [*own]
            with self.assertRaises(TypeError):
                _, _ = own

    def test_no_in(self):
        for own in (ALONE, BOOK):
            for value in STRANGE + [(), ALONE, BOTH, FOLK]:
                with self.assertRaises(TypeError):
                    value in own
                with self.assertRaises(TypeError):
                    value not in own

    def test_no_items_of_a_clause(self):
        with self.assertRaises(TypeError):
            ALONE[0]
        with self.assertRaises(TypeError):
            len(ALONE)

    def test_no_items_are_set(self):
        with self.assertRaises(TypeError):
            BOOK[0] = BOTH
        with self.assertRaises(TypeError):
            del BOOK[0]


class NothingChanges(Case):

    def test_lists_that_were_passed(self):
        clauses = [ALONE, BOTH]
        lent = [("cat", "ann"), ("ann", "bob")]
        book = Book(FOLK, clauses, lent)
        self.assertEqual((clauses, lent), ([ALONE, BOTH], [("cat", "ann"), ("ann", "bob")]))
        clauses.append(None)
        clauses[0] = BOTH
        lent.clear()
        self.assertEqual((book.clauses, book.lent), ((ALONE, BOTH), (("ann", "bob"), ("cat", "ann"))))
        self.assertEqual(len(book), 2)
        self.assertIs(book[0], ALONE)

    def test_wrong_values_that_were_passed(self):
        for function, wrong in [
                (need_people, WRONG_PEOPLE), (lambda people: Book(people, [ALONE]), WRONG_PEOPLE),
                (lambda slots: Clause(FOLK, slots), WRONG_SLOTS),
                (lambda sums: Clause(FOLK, (FOLK,), None, sums), WRONG_SUMS),
                (lambda lent: Book(FOLK, [ALONE], lent), WRONG_LENT)]:
            before = [repr(value) for value in wrong]
            for value in wrong:
                with self.assertRaises(SignError):
                    function(value)
            self.assertEqual([repr(value) for value in wrong], before)

    def test_books_and_clauses(self):
        book = Book(FOLK, [ALONE, BOTH], [("ann", "bob")])
        before = copy.deepcopy([vars(book), vars(ALONE), vars(BOTH)])
        for call in [
                lambda: book.adding(BOTH), lambda: book.without(0), lambda: book.lending("bob", "cat"),
                lambda: book.lending("ann", "bob"), lambda: book.as_one("cat", "ann"), lambda: book.leaving("ann"),
                lambda: book[1], lambda: len(book), lambda: book == BOOK, lambda: ALONE.changed("cap", None),
                lambda: ALONE.changed("slots", ((),)), lambda: ALONE.changed("sums", ()), lambda: ALONE == BOTH]:
            # Equal calls give equal results.
            self.assertEqual(call(), call())
        for call in [
                lambda: book.adding(None), lambda: book.without(2), lambda: book.lending("bob", "bob"),
                lambda: book.as_one("cat", "dan"), lambda: book.leaving("dan"), lambda: book[2],
                lambda: ALONE.changed("cap", 0), lambda: ALONE.changed("people", FOLK)]:
            with self.assertRaises(SignError):
                call()
        self.assertEqual([vars(book), vars(ALONE), vars(BOTH)], before)

    def test_equal_calls_of_functions(self):
        self.assertEqual(all_lots(FOLK), all_lots(tuple(list(FOLK))))
        self.assertIs(is_lot(FOLK, ("ann",)), is_lot(FOLK, ("ann",)))


if __name__ == "__main__":
    unittest.main()
