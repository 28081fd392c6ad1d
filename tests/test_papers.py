import unittest

import plain
from samples import (ALONE, BOOK, BOTH, FOLK, GREAT, KINDS, SIX, THINGS, WRONG_LOTS, Case, wrong_numbers)
from whomaysign.books import Book
from whomaysign.clauses import Clause
from whomaysign.covers import cover
from whomaysign.errors import BadLot, BadNumber, BadPaper, TooMany
from whomaysign.hands import filling
from whomaysign.people import all_lots
from whomaysign.reach import check, gathers, makes, paper

ANN = (("ann",),)
FREE = Clause(FOLK, ANN)
CAPPED = Clause(FOLK, ANN, 5)
# The clauses that have no sums, those that have, and those that cat does not sign.
MIXED = Book(FOLK, [ALONE, FREE, BOTH, CAPPED.changed("sums", ((2, 9),))])


def daily(most, cap=None, days=1):
    return Clause(FOLK, ANN, cap, ((days, most),))


def small_books():
    yield from (MIXED, BOOK.lending("bob", "cat"))
    yield from plain.some_books(21, 60, FOLK)
    yield from plain.some_books(22, 6, SIX)


class Papers(Case):

    def judge(self, book, lot, days):
        """Checks a paper by the document's words, and that check takes it."""
        told = paper(book, lot, days)
        word = "free" if gathers(book, lot, days) is None else "sum"
        self.assertEqual(plain.check(book, lot, days, told), word)
        self.assertEqual(check(book, lot, days, told), word)
        if word == "sum":
            self.assertEqual(told[1], gathers(book, lot, days))
            self.assertIs(makes(book, lot, told[3]), True)
        self.assertEqual(told, paper(book, lot, days))
        return told

    def test_of_the_example(self):
        told = self.judge(BOOK, ("ann", "cat"), 7)
        self.assertEqual(told[:2], ("sum", 2500))
        self.assertEqual(told[2][0], ("signed", filling(BOOK, ("ann", "cat"), 0), cover(ALONE, 7)))
        self.assertEqual(told[2][1], ("short", (0, 1)))
        self.assertEqual(self.judge(BOOK, ("ann", "bob"), 7)[:2], ("free", 1))
        self.assertEqual(self.judge(BOOK, (), 7)[::3], ("sum", ()))

    def test_small_books(self):
        for book in small_books():
            for lot in all_lots(book.people):
                for days in (0, 1, 2, 5):
                    self.judge(book, lot, days)

    def test_no_days(self):
        for book in small_books():
            for lot in all_lots(book.people):
                self.assertEqual(self.judge(book, lot, 0)[::3], ("sum", ()))
        # With no days even a clause without sums has a cover, the empty one.
        self.assertEqual(paper(Book(FOLK, [FREE]), ("ann",), 0), ("sum", 0, (("signed", ("ann",), ()),), ()))

    def test_free(self):
        for days in (1, 60, 1000):
            self.assertEqual(self.judge(MIXED, ("ann",), days), ("free", 1, ("ann",)))
            self.assertEqual(self.judge(Book(FOLK, [CAPPED]), ("ann", "cat"), days), ("free", 0, ("ann",)))

    def test_one_day_and_many(self):
        book = Book(FOLK, [ALONE, daily(9, 4, 2), daily(20, None, 7)])
        for lot in all_lots(FOLK):
            for days in (1, 2, 6, 7, 8, 60, 300):
                self.judge(book, lot, days)

    def test_payments_up_to_the_cap(self):
        for most in (1, 4, 5, 6, 9, 10, 11):
            told = self.judge(Book(FOLK, [daily(most, 5)]), ("ann",), 3)
            self.assertEqual(told[1], 3 * most)
            self.assertLessEqual(max(amount for _, _, amount in told[3]), 5)

    def test_many_figures(self):
        self.judge(Book(FOLK, [daily(GREAT), daily(10 ** 1000 - 1, None, 7), daily(3 * GREAT, GREAT, 2)]), FOLK, 300)
        self.judge(Book(FOLK, [daily(2 ** 3000, 2 ** 2995)]), FOLK, 60)

    def test_by_name(self):
        self.assertEqual(paper(days=7, lot=("cat",), book=BOOK), paper(BOOK, ("cat",), 7))
        self.assertEqual(check(thing=paper(BOOK, FOLK, 7), days=7, lot=FOLK, book=BOOK), "free")


class Many(Case):

    def few(self, book, lot, days):
        self.assertEqual(check(book, lot, days, paper(book, lot, days)), "sum")

    def many(self, book, lot, days):
        self.refuses(TooMany, 2000, paper, book, lot, days)

    def test_days(self):
        self.few(Book(FOLK, [daily(1)] * 2), FOLK, 1000)
        self.few(Book(FOLK, [daily(1)] * 5), FOLK, 400)
        self.many(Book(FOLK, [daily(1)] * 5), FOLK, 401)
        self.many(Book(FOLK, [daily(1)] * 3), FOLK, 667)
        self.few(Book(FOLK, [daily(1)] * 3), FOLK, 666)

    def test_payments_with_a_cap(self):
        self.few(Book(FOLK, [daily(1, 1)]), FOLK, 1000)
        self.few(Book(FOLK, [daily(2000, 1, 7)]), FOLK, 0)
        # One day, and 1,999 or 2,000 payments of 1.
        self.few(Book(FOLK, [daily(1999, 1)]), FOLK, 1)
        self.many(Book(FOLK, [daily(2000, 1)]), FOLK, 1)
        # A cover of 1,000 days costs 1,001, one more than is left beside the days.
        self.many(Book(FOLK, [daily(7, 1, 7)]), FOLK, 1000)
        self.few(Book(FOLK, [daily(7, 2, 7)]), FOLK, 1000)

    def test_the_whole_part(self):
        self.few(Book(FOLK, [daily(19999, 10)]), FOLK, 1)
        self.many(Book(FOLK, [daily(20000, 10)]), FOLK, 1)
        self.few(Book(FOLK, [daily(1, GREAT), daily(998, 1)]), FOLK, 2)
        # The part is taken of each clause by itself.
        self.few(Book(FOLK, [daily(1, 2), daily(1, 2), daily(1997, 1)]), FOLK, 1)
        self.many(Book(FOLK, [daily(1, 2), daily(1, 2), daily(1998, 1)]), FOLK, 1)
        # It is taken of the whole cost, not of each day.
        self.few(Book(FOLK, [daily(1, 2)]), FOLK, 1000)
        self.few(Book(FOLK, [daily(3, 2)]), FOLK, 800)
        self.many(Book(FOLK, [daily(3, 2)]), FOLK, 801)

    def test_without_a_cap_the_amounts_do_not_count(self):
        self.few(Book(FOLK, [daily(GREAT)]), FOLK, 1000)
        self.many(Book(FOLK, [daily(GREAT, 1)]), FOLK, 1)
        self.many(Book(FOLK, [daily(10 ** 1000 - 1, 1, 7)]), FOLK, 1000)

    def test_only_clauses_that_are_signed(self):
        book = Book(FOLK, [daily(1)] * 2 + [daily(GREAT, 1).changed("slots", (("bob",),))] * 3)
        self.few(book, ("ann",), 1000)
        self.few(book, (), 1000)
        self.many(book, ("ann", "bob"), 1)

    def test_only_if_there_is_a_bound(self):
        book = Book(FOLK, [daily(GREAT, 1)] * 4 + [FREE])
        self.assertEqual(check(book, ("ann",), 1000, paper(book, ("ann",), 1000)), "free")

    def test_at_last(self):
        self.refuses(BadLot, None, paper, Book(FOLK, [daily(GREAT, 1)]), None, 1)
        self.refuses(BadNumber, True, paper, Book(FOLK, [daily(GREAT, 1)]), FOLK, True)


class Checking(Case):

    def tells(self, book, lot, days, thing):
        """Checks that check says of any value what the document's words say."""
        want = plain.check(book, lot, days, thing)
        if isinstance(want, list):
            self.refuses(BadPaper, want[0], check, book, lot, days, thing)
        else:
            self.assertEqual(check(book, lot, days, thing), want)
        return want

    def test_form(self):
        for thing in THINGS + [
                ("sum", 0, ()), ("sum", 0, (), (), ()), ("free", 1, ("ann",), ()), ("free", 1), ("free",), ("sum",), (),
                "sum", "free", ["free", 1, ("ann",)], ["sum", 0, (), ()], ("Sum", 0, (), ()), ("Free", 1, ()),
                (b"sum", 0, (), ()), ("sum ", 0, (), ()), ("free", 0, (), 0), ("sum", 0, 0), (None, 1, ("ann",)),
                (("free",), 1, ("ann",)), ("signed", (), ()), ("short", (0,)), ("free", "sum", (), ())]:
            for days in (0, 1):
                self.refuses(BadPaper, "form", check, MIXED, ("ann",), days, thing)

    def test_sum_number(self):
        _, number, parts, row = paper(BOOK, ("cat",), 3)
        for wrong in KINDS + ["1000", 0.5, b"1", (1000,), [1000], {1000: 1}]:
            if type(wrong) is not int:
                self.refuses(BadPaper, "number", check, BOOK, ("cat",), 3, ("sum", wrong, parts, row))
                self.refuses(BadPaper, "number", check, BOOK, ("cat",), 3, ("sum", wrong, None, None))
        # Integers are numbers, if not the costs.
        for wrong in (-1000, -1, 0, 999, 1001, GREAT, -GREAT):
            self.refuses(BadPaper, "parts", check, BOOK, ("cat",), 3, ("sum", wrong, parts, row))

    def test_true_is_not_one(self):
        book = Book(FOLK, [daily(1)])
        right = ("sum", 1, (("signed", ("ann",), ((0, 1),)),), ((0, 0, 1),))
        self.assertEqual(check(book, ("ann",), 1, right), "sum")
        self.refuses(BadPaper, "number", check, book, ("ann",), 1, ("sum", True) + right[2:])
        self.refuses(BadPaper, "number", check, book, (), 1, ("sum", False, (("short", (0,)),), ()))
        self.assertEqual(check(book, (), 1, ("sum", 0, (("short", (0,)),), ())), "sum")

    def test_parts(self):
        signed = ("signed", ("cat",), ((0, 3),))
        row = ((0, 0, 500), (1, 0, 500))
        self.assertEqual(check(BOOK, ("cat",), 3, ("sum", 1000, (signed, ("short", (0, 1))), row)), "sum")
        # Every short is as good.
        self.assertEqual(check(BOOK, ("cat",), 3, ("sum", 1000, (signed, ("short", (1,))), row)), "sum")
        for parts in THINGS + [
                (signed,), (signed, ("short", (0, 1)), ("short", (0, 1))), [signed, ("short", (0, 1))],
                (("short", (0, 1)), signed), (signed, signed), (signed, None), (signed, ("short", ())),
                (signed, ("short", (0, 2))), (signed, ("short", (0, 1), ())), (signed, ["short", (0, 1)]),
                (signed, ("signed", (0, 1))), (signed, ("signed", ("cat", "ann"), ())),
                (("short", (0,)), ("short", (0, 1))),
                (signed[:2], ("short", (0, 1))), (signed + ((),), ("short", (0, 1))),
                (("signed", ("ann",), ((0, 3),)), ("short", (0, 1))), (("signed", ("cat",), ()), ("short", (0, 1))),
                (("signed", ("cat",), ((1, 3),)), ("short", (0, 1))),
                # These cover the days, but cost more or less than the number.
                (("signed", ("cat",), ((0, 1), (0, 3))), ("short", (0, 1))),
                (("signed", ("cat",), ((0, 1), (1, 1), (2, 1))), ("short", (0, 1)))]:
            self.refuses(BadPaper, "parts", check, BOOK, ("cat",), 3, ("sum", 1000, parts, row))
            self.refuses(BadPaper, "parts", check, BOOK, ("cat",), 3, ("sum", 1000, parts, None))

    def test_a_cover_that_is_not_the_cheapest(self):
        parts = (("signed", ("cat",), ((0, 1), (1, 1), (2, 1))), ("short", (0, 1)))
        # Its cost is told as the number, but no row reaches it.
        for row in [(), ((0, 0, 500), (1, 0, 500)), ((0, 0, 500), (1, 0, 500), (2, 0, 500))]:
            self.refuses(BadPaper, "row", check, BOOK, ("cat",), 3, ("sum", 1500, parts, row))

    def test_row(self):
        parts = (("signed", ("cat",), ((0, 3),)), ("short", (0, 1)))
        for row in [((0, 0, 500), (2, 0, 500)), ((0, 0, 1),) * 500 + ((1, 0, 500),)]:
            self.assertEqual(check(BOOK, ("cat",), 3, ("sum", 1000, parts, row)), "sum")
        for row in THINGS + [
                ((0, 0, 500),), ((0, 0, 500), (1, 0, 499)), ((0, 0, 500), (1, 0, 501)), ((0, 0, 1000),),
                ((0, 0, 500), (3, 0, 500)), ((0, 0, 500), (2, 0, 400), (3, 0, 100)), ((1, 0, 500), (0, 0, 500)),
                ((0, 0, 500), (0, 0, 500)), [(0, 0, 500), (1, 0, 500)], ((0, 0, 500), [1, 0, 500]),
                ((0, 1, 1000),), ((0, 0, 500), (1, 1, 500)), ((0, 0, 500), (1, 2, 500)),
                ((0, 0, 500), (1, 0, 500), ())]:
            self.refuses(BadPaper, "row", check, BOOK, ("cat",), 3, ("sum", 1000, parts, row))

    def test_a_total_of_zero(self):
        parts = (("short", (0,)), ("short", (1,)))
        self.assertEqual(check(BOOK, (), 3, ("sum", 0, parts, ())), "sum")
        for row in THINGS + [((0, 0, 1),), ((3, 0, 1),)]:
            if not plain.same(row, ()):
                self.refuses(BadPaper, "row", check, BOOK, (), 3, ("sum", 0, parts, row))

    def test_a_needless_cover_for_no_days(self):
        book = Book(FOLK, [ALONE])
        self.assertEqual(check(book, FOLK, 0, ("sum", 0, (("signed", ("bob",), ()),), ())), "sum")
        costly = (("signed", ("bob",), ((0, 1),)),)
        self.refuses(BadPaper, "parts", check, book, FOLK, 0, ("sum", 0, costly, ()))
        self.refuses(BadPaper, "row", check, book, FOLK, 0, ("sum", 500, costly, ()))
        self.refuses(BadPaper, "row", check, book, FOLK, 0, ("sum", 500, costly, ((0, 0, 500),)))

    def test_free_number(self):
        self.assertEqual(check(MIXED, ("ann",), 1, ("free", 1, ("ann",))), "free")
        for number in wrong_numbers(4) + [0, 3]:
            self.refuses(BadPaper, "number", check, MIXED, ("ann",), 1, ("free", number, ("ann",)))
            self.refuses(BadPaper, "number", check, MIXED, ("ann",), 1, ("free", number, None))
            self.refuses(BadPaper, "number", check, MIXED, ("ann",), 0, ("free", number, ("ann",)))

    def test_free_of_no_days(self):
        for number in range(4):
            self.refuses(BadPaper, "number", check, MIXED, FOLK, 0, ("free", number, ("ann",)))
            self.refuses(BadPaper, "number", check, MIXED, FOLK, 0, ("free", number, None))

    def test_free_filling(self):
        for thing in THINGS + [("bob",), ("ann", "bob"), ["ann"], "ann", (("ann",),), ("ann", "ann")]:
            if not plain.same(thing, ("ann",)):
                self.refuses(BadPaper, "filling", check, MIXED, FOLK, 5, ("free", 1, thing))
        # A clause without sums, that the lot does not sign.
        self.refuses(BadPaper, "filling", check, MIXED, ("ann", "cat"), 5, ("free", 2, ("ann", "bob")))
        for people in [("ann", "bob"), ("bob", "ann")]:
            self.assertEqual(check(MIXED, FOLK, 5, ("free", 2, people)), "free")

    def test_no_sum_for_a_lot_without_a_bound(self):
        for parts in [
                (("signed", ("ann",), ()),), (("signed", ("ann",), ((0, 1),)),), (("short", (0,)),), (("short", ()),)]:
            for number in (0, 1):
                thing = ("sum", number, parts, ())
                self.refuses(BadPaper, "parts", check, Book(FOLK, [FREE]), ("ann",), 1, thing)

    def test_papers_of_other_lots_and_days(self):
        for book in plain.some_books(23, 25, FOLK):
            asked = [(lot, days) for lot in all_lots(FOLK) for days in (0, 1, 3)]
            papers = [paper(book, lot, days) for lot, days in asked]
            for lot, days in asked:
                for thing in papers:
                    self.tells(book, lot, days, thing)

    def test_right_ones_spoiled_in_one_place(self):
        told = []
        for book in plain.some_books(24, 8, FOLK):
            for lot in [(), ("ann", "bob"), FOLK]:
                for days in (0, 1, 3):
                    for thing in plain.spoiled(paper(book, lot, days), KINDS):
                        told.append(str(self.tells(book, lot, days, thing)))
        for word in ("sum", "free", "['form']", "['number']", "['parts']", "['row']", "['filling']"):
            self.assertIn(word, told)

    def test_equal_calls(self):
        for thing in [paper(BOOK, FOLK, 3), paper(BOOK, ("cat",), 3)]:
            self.assertEqual(check(BOOK, FOLK[2:], 3, paper(BOOK, FOLK[2:], 3)), "sum")
            before = repr(thing)
            self.tells(BOOK, FOLK, 3, thing)
            self.assertEqual(repr(thing), before)

    def test_what_is_told_may_be_passed(self):
        book = Book(FOLK, [daily(10 ** 1000 - 1)])
        told = paper(book, FOLK, 1000)
        self.assertGreater(told[1], 10 ** 1000)
        self.assertEqual(check(book, FOLK, 1000, told), "sum")
        self.refuses(BadPaper, "parts", check, book, FOLK, 1000, ("sum", told[1] + 1) + told[2:])
        self.assertEqual(filling(book, FOLK, 0), told[2][0][1])


class Refusing(Case):

    def test_lot(self):
        for lot in WRONG_LOTS:
            self.refuses(BadLot, lot, paper, BOOK, lot, 1)
            self.refuses(BadLot, lot, check, BOOK, lot, 1, None)

    def test_days(self):
        for days in wrong_numbers(1001):
            self.refuses(BadNumber, days, paper, BOOK, ("ann",), days)
            self.refuses(BadNumber, days, check, BOOK, ("ann",), days, None)

    def test_the_first_one_listed(self):
        self.refuses(BadLot, None, paper, BOOK, None, None)
        self.refuses(BadLot, None, check, BOOK, None, None, None)
        self.refuses(BadNumber, 1001, check, BOOK, FOLK, 1001, ("free", 1, ("ann", "bob")))
        self.refuses(BadPaper, "form", check, BOOK, FOLK, 1000, None)
        self.refuses(BadPaper, "number", check, BOOK, FOLK, 1, ("sum", None, None, None))
        self.refuses(BadPaper, "parts", check, BOOK, FOLK, 1, ("sum", 0, None, None))
        self.refuses(BadPaper, "number", check, BOOK, FOLK, 1, ("free", 0, None))
        self.refuses(BadPaper, "filling", check, BOOK, FOLK, 1, ("free", 1, None))
        self.refuses(BadLot, None, check, thing=None, days=None, lot=None, book=BOOK)


if __name__ == "__main__":
    unittest.main()
