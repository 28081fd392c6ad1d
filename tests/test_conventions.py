import copy
import operator
import unittest

from samples import (ALONE, BOOK, BOTH, FOLK, STRANGE, WRONG_LENT, WRONG_PEOPLE, WRONG_SLOTS, WRONG_SUMS, Case)
from whomaysign.books import Book
from whomaysign.clauses import Clause
from whomaysign.compare import alike, never_needed, parting
from whomaysign.covers import cover, is_cover, least_cost, spread
from whomaysign.desk import Desk, tried
from whomaysign.errors import BadPaper, BadRow, BadWish, SignError
from whomaysign.hands import filling, fillers, is_filling, is_short, short, signs
from whomaysign.lots import bars, fulfils, least_lots, levels, spared
from whomaysign.people import all_lots, is_lot, need_people
from whomaysign.reach import at_once, check, gathers, keeps, makes, paper
from whomaysign.second import cost_too, signs_too
from whomaysign.texts import book_text, clause_text, read_book, read_clause

DESK = Desk(BOOK)
DESK.pay(("cat",), (0, 0, 500))
OWN = (ALONE, BOOK, DESK)

SIGNS = [
    operator.add, operator.sub, operator.mul, operator.floordiv, operator.truediv, operator.mod, operator.pow,
    operator.and_, operator.or_, operator.xor, operator.lshift, operator.rshift, operator.matmul, divmod,
    operator.lt, operator.le, operator.gt, operator.ge,
    operator.iadd, operator.isub, operator.imul, operator.ior, operator.iand, operator.ixor,
]
ALL_OF_ONE = [operator.neg, operator.pos, operator.invert, abs, int, operator.index]


def places(thing, other):
    """A thing with another value in each of its places, at any depth."""
    yield other
    for at, item in enumerate(thing if isinstance(thing, tuple) else ()):
        for part in places(item, other):
            yield thing[:at] + (part,) + thing[at + 1:]


class Signs(Case):

    def test_beside_any_value(self):
        for own in OWN:
            for value in STRANGE + [(), (ALONE,), FOLK, DESK, [DESK], DESK.row]:
                for sign in SIGNS:
                    with self.assertRaises(TypeError):
                        sign(own, value)
                    # Text formatting answers before a book is asked.
                    if not (own is BOOK and sign is operator.mod and isinstance(value, (str, bytes))):
                        with self.assertRaises(TypeError):
                            sign(copy.copy(value) if isinstance(value, (list, dict, set)) else value, own)

    def test_alone(self):
        for own in OWN:
            for sign in ALL_OF_ONE:
                with self.assertRaises(TypeError):
                    sign(own)

    def test_no_iterating(self):
        for own in OWN:
            for over in (iter, list, tuple, sorted, sum, enumerate, zip, dict, set, any, max):
                with self.assertRaises(TypeError):
                    over(own)
            with self.assertRaises(TypeError):
                for _ in own:
                    pass
            with self.assertRaises(TypeError):
                [*own]
            with self.assertRaises(TypeError):
                _, _ = own

    def test_no_in(self):
        for own in OWN:
            for value in STRANGE + [(), ALONE, BOTH, FOLK, DESK, (0, 0, 500)]:
                with self.assertRaises(TypeError):
                    value in own
                with self.assertRaises(TypeError):
                    value not in own

    def test_no_items_of_a_clause(self):
        with self.assertRaises(TypeError):
            ALONE[0]
        with self.assertRaises(TypeError):
            len(ALONE)

    def test_no_items_of_a_desk(self):
        for at in (0, -1, slice(0, 1), None):
            with self.assertRaises(TypeError):
                DESK[at]
        with self.assertRaises(TypeError):
            reversed(DESK)
        with self.assertRaises(TypeError):
            with DESK:
                pass

    def test_no_items_are_set(self):
        for own in (BOOK, DESK):
            with self.assertRaises(TypeError):
                own[0] = BOTH
            with self.assertRaises(TypeError):
                del own[0]


class Sullen:
    """A value that can't be compared with anything."""

    __hash__ = None

    def __eq__(self, other):
        raise AssertionError("compared")

    __ne__ = __lt__ = __gt__ = __le__ = __ge__ = __eq__


class AnyValue(Case):

    def test_values_that_cannot_be_compared(self):
        sullen = Sullen()
        self.assertIs(is_lot(FOLK, sullen), False)
        for right, judge in [
                (FOLK, lambda thing: is_lot(FOLK, thing)),
                (("ann", "bob"), lambda thing: is_filling(BOOK, FOLK, 1, thing)),
                ((0, 1), lambda thing: is_short(BOOK, ("ann",), 1, thing)),
                (((0, 3),), lambda thing: is_cover(ALONE, 3, thing)),
                (((0, 1, 9), (1, 0, 500)), lambda thing: keeps(BOOK, thing)),
                (((0, 1, 9), (1, 0, 500)), lambda thing: makes(BOOK, FOLK, thing))]:
            self.assertIs(judge(right), True)
            for thing in places(right, sullen):
                self.assertIs(judge(thing), False)
        for lot in (("cat",), FOLK):
            for thing in places(paper(BOOK, lot, 3), sullen):
                with self.assertRaises(BadPaper):
                    check(BOOK, lot, 3, thing)
        for right in (("once", 1), ("days", 1, 1)):
            for wish in places(right, sullen):
                with self.assertRaises(BadWish):
                    fulfils(BOOK, FOLK, wish)

    def test_values_that_cannot_be_compared_where_one_is_wanted(self):
        sullen = Sullen()
        desk = Desk(BOOK)
        for call in [
                lambda: signs_too(BOOK, sullen, 0), lambda: signs_too(BOOK, (sullen,), 0),
                lambda: signs_too(BOOK, FOLK, sullen), lambda: cost_too(ALONE, sullen), lambda: read_book(sullen),
                lambda: read_clause(FOLK, sullen), lambda: read_clause((sullen,), ""), lambda: desk.left(sullen, 0),
                lambda: desk.left(FOLK, sullen), lambda: desk.pay((sullen,), (0, 0, 1)), lambda: desk.undo(sullen)]:
            with self.assertRaises(SignError):
                call()
        for payment in places((0, 0, 1), sullen):
            with self.assertRaises(BadRow):
                desk.pay(FOLK, payment)
        self.assertEqual(desk.row, ())


def paid_and_told(desk):
    """Pays something at a desk, and tells all about it."""
    desk.pay(("cat",), (1, 0, 300))
    return desk.row, len(desk), desk.day(), desk.left(("cat",), 1), desk == Desk(BOOK)


class NothingChanges(Case):

    def test_lists_that_were_passed(self):
        clauses = [ALONE, BOTH]
        lent = [("cat", "ann"), ("ann", "bob")]
        book = Book(FOLK, clauses, lent)
        self.assertEqual((clauses, lent), ([ALONE, BOTH], [("cat", "ann"), ("ann", "bob")]))
        clauses.append(None)
        clauses[0] = BOTH
        lent.clear()
        self.assertEqual((book.clauses, book.lent), ((ALONE, BOTH), (("ann", "bob"), ("cat", "ann"))))
        self.assertEqual(len(book), 2)
        self.assertIs(book[0], ALONE)

    def test_wrong_values_that_were_passed(self):
        for function, wrong in [
                (need_people, WRONG_PEOPLE), (lambda people: Book(people, [ALONE]), WRONG_PEOPLE),
                (lambda slots: Clause(FOLK, slots), WRONG_SLOTS),
                (lambda sums: Clause(FOLK, (FOLK,), None, sums), WRONG_SUMS),
                (lambda lent: Book(FOLK, [ALONE], lent), WRONG_LENT)]:
            before = [repr(value) for value in wrong]
            for value in wrong:
                with self.assertRaises(SignError):
                    function(value)
            self.assertEqual([repr(value) for value in wrong], before)

    def test_books_and_clauses(self):
        book = Book(FOLK, [ALONE, BOTH], [("ann", "bob")])
        before = copy.deepcopy([vars(book), vars(ALONE), vars(BOTH)])
        for call in [
                lambda: book.adding(BOTH), lambda: book.without(0), lambda: book.lending("bob", "cat"),
                lambda: book.lending("ann", "bob"), lambda: book.as_one("cat", "ann"), lambda: book.leaving("ann"),
                lambda: book[1], lambda: len(book), lambda: book == BOOK, lambda: ALONE.changed("cap", None),
                lambda: ALONE.changed("slots", ((),)), lambda: ALONE.changed("sums", ()), lambda: ALONE == BOTH]:
            # Equal calls give equal results.
            self.assertEqual(call(), call())
        for call in [
                lambda: book.adding(None), lambda: book.without(2), lambda: book.lending("bob", "bob"),
                lambda: book.as_one("cat", "dan"), lambda: book.leaving("dan"), lambda: book[2],
                lambda: ALONE.changed("cap", 0), lambda: ALONE.changed("people", FOLK)]:
            with self.assertRaises(SignError):
                call()
        self.assertEqual([vars(book), vars(ALONE), vars(BOTH)], before)

    def test_equal_calls_of_functions(self):
        self.assertEqual(all_lots(FOLK), all_lots(tuple(list(FOLK))))
        self.assertIs(is_lot(FOLK, ("ann",)), is_lot(FOLK, ("ann",)))

    def test_what_is_asked_of_a_book(self):
        one = Book(FOLK, [ALONE, BOTH], [("bob", "cat")])
        other = Book(tuple(list(FOLK)), (ALONE.changed("cap", 500), BOTH), [("bob", "cat")])
        before = copy.deepcopy([vars(one), vars(ALONE), vars(BOTH)])
        for call in [
                lambda book: fillers(book, 1), lambda book: signs(book, FOLK, 1), lambda book: filling(book, FOLK, 1),
                lambda book: short(book, ("ann",), 1), lambda book: is_filling(book, FOLK, 1, ("ann", "bob")),
                lambda book: is_short(book, ("ann",), 1, (0, 1)), lambda book: least_cost(book[0], 9),
                lambda book: cover(book[0], 9), lambda book: is_cover(book[0], 3, ((0, 3),)),
                lambda book: spread(book[0], 9), lambda book: keeps(book, ((0, 0, 5),)),
                lambda book: makes(book, FOLK, ((0, 0, 5),)), lambda book: at_once(book, ("cat",)),
                lambda book: gathers(book, ("cat",), 9), lambda book: paper(book, ("cat",), 9),
                lambda book: paper(book, FOLK, 9), lambda book: check(book, FOLK, 9, paper(book, FOLK, 9)),
                lambda book: fulfils(book, FOLK, ("once", 9)), lambda book: least_lots(book, ("once", 501)),
                lambda book: bars(book, ("days", 9, 501)), lambda book: levels(book, 9),
                lambda book: spared(book, ("once", 501)), lambda book: alike(book, book.without(0)),
                lambda book: alike(book, book), lambda book: parting(book, book.without(0)),
                lambda book: never_needed(book), lambda book: signs_too(book, FOLK, 1),
                lambda book: cost_too(book[0], 9), lambda book: clause_text(book[0]), lambda book: book_text(book),
                lambda book: Desk(book).left(FOLK, 3), lambda book: tried(Desk(book), paid_and_told)]:
            told = call(one)
            self.assertTrue(told is None or isinstance(told, (tuple, int, str)))
            self.assertEqual(told, call(one))
            self.assertEqual(told, call(other))
        self.assertEqual([vars(one), vars(ALONE), vars(BOTH)], before)

    def test_a_book_at_a_desk(self):
        before = copy.deepcopy([vars(BOOK), vars(ALONE), vars(BOTH)])
        one, other = Desk(BOOK), Desk(BOOK)
        payment = (0, 0, 500)
        one.pay(("ann",), payment)
        with one.trial():
            one.undo()
        with self.assertRaises(BadRow):
            one.pay(("ann",), payment)
        # Desks of one book know nothing of one another.
        self.assertEqual((one.row, other.row, payment), ((payment,), (), (0, 0, 500)))
        self.assertEqual([one.left(("cat",), 0), other.left(("cat",), 0)], [0, 500])
        self.assertEqual([vars(BOOK), vars(ALONE), vars(BOTH)], before)

    def test_texts_that_are_read(self):
        text = book_text(BOOK)
        for _ in range(2):
            self.assertEqual(read_book(text), BOOK)
            self.assertEqual(read_clause(FOLK, clause_text(ALONE)), ALONE)
        self.assertEqual(text, book_text(BOOK))

    def test_lists_that_are_judged(self):
        for thing in [
                [], ["ann", "bob"], [0, 1], ["sum", 0, [], []], ("sum", 0, [["short", [0]]], []), ([0, 0, 1],),
                ["free", 1, ["ann", "bob"]], ("free", 1, ["ann", "bob"]), {"sum": [0]}, ({"sum": [0]},)]:
            before = repr(thing)
            for call in [
                    lambda: is_filling(BOOK, FOLK, 1, thing), lambda: is_short(BOOK, ("ann",), 1, thing),
                    lambda: is_cover(ALONE, 0, thing), lambda: keeps(BOOK, thing), lambda: makes(BOOK, FOLK, thing)]:
                self.assertIs(call(), False)
            for call in [
                    lambda: check(BOOK, FOLK, 1, thing), lambda: fulfils(BOOK, FOLK, thing),
                    lambda: least_lots(BOOK, thing), lambda: signs(BOOK, thing, 7), lambda: at_once(BOOK, [thing]),
                    lambda: Desk(BOOK).pay(FOLK, thing), lambda: Desk(BOOK).pay(thing, (0, 0, 1)),
                    lambda: Desk(BOOK).left(FOLK, thing), lambda: Desk(BOOK).undo(thing), lambda: read_book(thing),
                    lambda: read_clause(FOLK, thing), lambda: read_clause(thing, ""), lambda: cost_too(ALONE, thing),
                    lambda: signs_too(BOOK, thing, 0), lambda: signs_too(BOOK, FOLK, thing)]:
                with self.assertRaises(SignError):
                    call()
            self.assertEqual(repr(thing), before)


if __name__ == "__main__":
    unittest.main()
