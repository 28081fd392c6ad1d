"""The slowest inputs that the document allows; each of these calls must end in a time that tests can bear."""

import itertools
import unittest

import plain
from samples import GREAT, SIX, Case
from whomaysign.books import Book
from whomaysign.clauses import Clause
from whomaysign.compare import alike, never_needed, parting
from whomaysign.covers import cover, is_cover, least_cost, spread
from whomaysign.desk import Desk, tried
from whomaysign.errors import BadNumber, BadPaper, BadRow, BadText, TooMany
from whomaysign.hands import filling, fillers, is_filling, is_short, short, signs
from whomaysign.lots import bars, fulfils, least_lots, levels, spared
from whomaysign.people import all_lots
from whomaysign.reach import at_once, check, gathers, keeps, makes, paper
from whomaysign.second import cost_too, signs_too
from whomaysign.texts import book_text, clause_text, read_book, read_clause

EVERY_PAIR = list(itertools.permutations(SIX, 2))
TOP = 10 ** 1000 - 1
PART = 10 ** 997
SUMS = ((5, TOP - 2), (6, TOP - 1), (7, TOP))
# By five clauses 9 windows each with 60 days in all, or 143 windows with 1,000.
SIXTY = 5 * (9 * TOP - 3)
THOUSAND = 5 * (143 * TOP - 1)
FULL = Book(SIX, [Clause(SIX, (SIX,) * 4, TOP - at, SUMS) for at in range(5)], EVERY_PAIR)
# Three people may fill four slots, which takes the most tries.
LACKING = Book(SIX, [Clause(SIX, (SIX[:3],) * 4, None, SUMS)] * 5)
# The last slot is the one that nobody may fill.
VAIN = Book(SIX, [Clause(SIX, (SIX, SIX, SIX, ()), None, SUMS)] * 5, EVERY_PAIR)
BOOKS = [FULL, LACKING, VAIN]


class Slowest(Case):

    def test_hands(self):
        for book in BOOKS:
            for lot in all_lots(SIX):
                for number in range(5):
                    self.assertIs(signs(book, lot, number), book is FULL and len(lot) >= 4)
                    self.assertIs(is_filling(book, lot, number, filling(book, lot, number)), signs(book, lot, number))
                    self.assertIs(is_short(book, lot, number, short(book, lot, number)), not signs(book, lot, number))
        self.assertEqual(fillers(FULL, 4), (SIX,) * 4)
        for thing in [SIX * 3000, tuple(range(20000)), (0,) * 20000]:
            self.assertIs(is_filling(FULL, SIX, 0, thing), False)
            self.assertIs(is_short(FULL, SIX, 0, thing), False)

    def test_covers(self):
        for clause in FULL.clauses:
            windows = cover(clause, 1000)
            self.assertIs(is_cover(clause, 1000, windows), True)
            self.assertEqual(plain.cost(clause, windows), least_cost(clause, 1000))
            self.assertEqual(sum(spread(clause, 1000)), least_cost(clause, 1000))
            self.assertIs(is_cover(clause, 1000, ((0, 7),) * 6000 + ((6, 7),)), False)

    def test_rows(self):
        row = ((0, 0, 1),) * 2500 + ((GREAT, 1, GREAT),) + ((GREAT, 4, 1),) * 2500
        self.assertIs(keeps(FULL, row), True)
        self.assertIs(makes(FULL, SIX, row), True)
        self.assertIs(makes(VAIN, SIX, row), False)
        self.assertIs(keeps(FULL, row + ((GREAT + 6, 1, TOP - GREAT + 1),)), False)
        self.assertEqual(at_once(FULL, SIX), TOP - 2)

    def test_gathering(self):
        for book in BOOKS:
            for lot in all_lots(SIX):
                total = gathers(book, lot, 60)
                self.assertEqual(total, SIXTY if len(lot) >= 4 and book is FULL else 0)
        self.assertEqual(gathers(FULL, SIX, 1000), THOUSAND)

    def test_papers(self):
        for book, days in [(FULL, 300), (LACKING, 1000), (VAIN, 1000)]:
            told = paper(book, SIX, days)
            self.assertEqual(check(book, SIX, days, told), "sum")
            self.refuses(BadPaper, "row", check, book, SIX, days, told[:3] + (told[3] + ((days, 0, 1),),))
        self.refuses(TooMany, 2000, paper, FULL, SIX, 1000)
        small = Book(SIX, [clause.changed("cap", 1) for clause in FULL.clauses], EVERY_PAIR)
        self.refuses(TooMany, 2000, paper, small, SIX, 1)
        freed = Book(SIX, list(FULL.clauses[:4]) + [Clause(SIX, (SIX,) * 4, TOP)])
        self.assertEqual(check(freed, SIX, 1000, paper(freed, SIX, 1000)), "free")

    def test_wishes(self):
        for wish in [("once", TOP - 2), ("days", 60, SIXTY), ("days", 60, 1)]:
            self.assertEqual(least_lots(FULL, wish), tuple(itertools.combinations(SIX, 4)))
            self.assertEqual(bars(FULL, wish), tuple(itertools.combinations(SIX, 3)))
            self.assertEqual(spared(FULL, wish), 2)
            for book in BOOKS:
                for lot in all_lots(SIX):
                    self.assertIs(fulfils(book, lot, wish), book is FULL and len(lot) >= 4)
            for book in (LACKING, VAIN):
                self.assertEqual((least_lots(book, wish), bars(book, wish)), ((), ((),)))
        for wish in [("once", TOP - 1), ("days", 60, SIXTY + 1)]:
            self.assertEqual((least_lots(FULL, wish), spared(FULL, wish)), ((), None))
        self.assertEqual(levels(FULL, 60), (0,) * 4 + (SIXTY,) * 3)
        self.assertEqual(levels(VAIN, 60), (0,) * 7)

    def test_comparing(self):
        for book in BOOKS:
            self.assertIs(alike(book, Book(SIX, book.clauses[::-1], book.lent)), True)
            self.assertEqual(never_needed(book), () if book is FULL else (0, 1, 2, 3, 4))
        # Every lot signs other clauses of this one, and each is needed by some.
        slots = [(SIX[:3],), (SIX[1:4],), (SIX[2:5],), (SIX[3:],), (SIX[:2], SIX[4:])]
        mixed = Book(SIX, [Clause(SIX, some, TOP, SUMS) for some in slots])
        self.assertIs(alike(mixed, mixed), True)
        self.assertEqual(never_needed(mixed), ())
        self.assertEqual(parting(FULL, VAIN), ("once", SIX[:4]))
        # All windows differ, yet all that is paid is the same.
        twice = [Clause(SIX, (SIX,), 1, ((5, 2 * TOP), (6, 2 * TOP + 2), (7, 2 * TOP + 4)))]
        halves = [Clause(SIX, (SIX,), 1, ((5, TOP), (6, TOP + 1), (7, TOP + 2)))] * 2
        self.assertIs(alike(Book(SIX, twice, EVERY_PAIR), Book(SIX, halves, EVERY_PAIR)), True)

    def test_the_second_ways(self):
        for book in BOOKS:
            for lot in all_lots(SIX):
                for number in range(5):
                    self.assertIs(signs_too(book, lot, number), book is FULL and len(lot) >= 4)
        for sums in (SUMS, ((1, TOP - 9), (2, TOP - 8), (3, TOP)), ((1, TOP // 3), (2, TOP // 2), (7, TOP))):
            clause = Clause(SIX, (SIX,), None, sums)
            for days in range(41):
                self.assertEqual(cost_too(clause, days), least_cost(clause, days))

    def test_desks(self):
        desk = Desk(FULL)
        for at in range(3000):
            desk.pay(SIX, (GREAT + at // 200, at % 5, PART))
            self.assertEqual((len(desk), desk.day()), (at + 1, GREAT + at // 200))
        # In seven days there were 40 by each clause on each day.
        self.assertEqual(desk.left(SIX, GREAT + 14), TOP - 280 * PART)
        row = desk.row
        self.assertIs(makes(FULL, SIX, row), True)
        for many in range(1, 3001, 7):
            with desk.trial():
                desk.undo(many)
                with desk.trial():
                    desk.undo(len(desk) // 2 + 1)
                desk.pay(SIX[2:], (2 * GREAT, 0, TOP - 2))
                self.refuses(BadRow, (2 * GREAT, 0, 1), desk.pay, SIX, (2 * GREAT, 0, 1))
            self.refuses(BadNumber, 3001, tried, desk, lambda same: same.undo(3001))
        self.assertEqual(desk.row, row)

    def test_many_payments_of_one_day(self):
        desk = Desk(FULL)
        for _ in range(10000):
            desk.pay(SIX, (0, 0, 1))
        self.assertEqual(desk.row, ((0, 0, 1),) * 10000)
        self.refuses(BadRow, (4, 0, TOP - 10001), desk.pay, SIX, (4, 0, TOP - 10001))
        desk.pay(SIX, (4, 0, TOP - 10002))
        desk.undo(10001)
        self.assertEqual(len(desk), 0)

    def test_trials_in_one_another(self):
        desk = Desk(FULL)

        def deeper(same):
            same.pay(SIX, (len(same), 0, 1))
            return tried(same, deeper) if len(same) < 100 else same.row

        self.assertEqual(tried(desk, deeper), tuple((day, 0, 1) for day in range(100)))
        self.assertEqual(desk.row, ())

    def test_texts(self):
        people = tuple(letter * 8 for letter in "abcdef")
        clause = Clause(people, (people,) * 4, TOP, SUMS)
        self.assertEqual(read_clause(people, clause_text(clause)), clause)
        book = Book(people, [clause] * 5, list(itertools.permutations(people, 2)))
        text = book_text(book)
        self.assertGreater(len(text), 20000)
        self.assertEqual(read_book(text), book)
        start = "people a\nslots "
        for line, wrong in [
                (1, "people " + "a " * 9996), (1, " " * 20000), (1, "\n" * 20000), (2, "people a" + "\n" * 19992),
                (2, start * 1330), (2, start + "slots " * 3330), (2, start + "a cap - sums" + " 1:1" * 4990),
                (2, start + "- " * 9900 + "cap - sums"), (2, start + "a cap " + "9" * 19900 + " sums"),
                (2, start + "a" + "+a" * 9900 + " cap - sums"), (2, start + "a cap - sums " + "1" * 19900 + ":1"),
                (7, "people a" + "\nslots - cap - sums" * 1050), (3, start + "a cap - sums" + "\nlent a a" * 1900)]:
            self.refuses(BadText, line, read_book, wrong)
            self.refuses(BadText, 1, read_clause, ("a",), wrong.partition("\n")[2])


if __name__ == "__main__":
    unittest.main()
