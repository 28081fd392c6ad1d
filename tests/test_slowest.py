"""The slowest inputs that the document allows; each of these calls must end in a time that tests can bear."""

import itertools
import unittest

import plain
from samples import GREAT, SIX, Case
from whomaysign.books import Book
from whomaysign.clauses import Clause
from whomaysign.covers import cover, is_cover, least_cost, spread
from whomaysign.errors import BadPaper, TooMany
from whomaysign.hands import filling, fillers, is_filling, is_short, short, signs
from whomaysign.lots import bars, fulfils, least_lots, levels, spared
from whomaysign.people import all_lots
from whomaysign.reach import at_once, check, gathers, keeps, makes, paper

EVERY_PAIR = list(itertools.permutations(SIX, 2))
TOP = 10 ** 1000 - 1
SUMS = ((5, TOP - 2), (6, TOP - 1), (7, TOP))
# By five clauses 9 windows each with 60 days in all, or 143 windows with 1,000.
SIXTY = 5 * (9 * TOP - 3)
THOUSAND = 5 * (143 * TOP - 1)
FULL = Book(SIX, [Clause(SIX, (SIX,) * 4, TOP - at, SUMS) for at in range(5)], EVERY_PAIR)
# Three people may fill four slots, which takes the most tries.
LACKING = Book(SIX, [Clause(SIX, (SIX[:3],) * 4, None, SUMS)] * 5)
# The last slot is the one that nobody may fill.
VAIN = Book(SIX, [Clause(SIX, (SIX, SIX, SIX, ()), None, SUMS)] * 5, EVERY_PAIR)
BOOKS = [FULL, LACKING, VAIN]


class Slowest(Case):

    def test_hands(self):
        for book in BOOKS:
            for lot in all_lots(SIX):
                for number in range(5):
                    self.assertIs(signs(book, lot, number), book is FULL and len(lot) >= 4)
                    self.assertIs(is_filling(book, lot, number, filling(book, lot, number)), signs(book, lot, number))
                    self.assertIs(is_short(book, lot, number, short(book, lot, number)), not signs(book, lot, number))
        self.assertEqual(fillers(FULL, 4), (SIX,) * 4)
        for thing in [SIX * 3000, tuple(range(20000)), (0,) * 20000]:
            self.assertIs(is_filling(FULL, SIX, 0, thing), False)
            self.assertIs(is_short(FULL, SIX, 0, thing), False)

    def test_covers(self):
        for clause in FULL.clauses:
            windows = cover(clause, 1000)
            self.assertIs(is_cover(clause, 1000, windows), True)
            self.assertEqual(plain.cost(clause, windows), least_cost(clause, 1000))
            self.assertEqual(sum(spread(clause, 1000)), least_cost(clause, 1000))
            self.assertIs(is_cover(clause, 1000, ((0, 7),) * 6000 + ((6, 7),)), False)

    def test_rows(self):
        row = ((0, 0, 1),) * 2500 + ((GREAT, 1, GREAT),) + ((GREAT, 4, 1),) * 2500
        self.assertIs(keeps(FULL, row), True)
        self.assertIs(makes(FULL, SIX, row), True)
        self.assertIs(makes(VAIN, SIX, row), False)
        self.assertIs(keeps(FULL, row + ((GREAT + 6, 1, TOP - GREAT + 1),)), False)
        self.assertEqual(at_once(FULL, SIX), TOP - 2)

    def test_gathering(self):
        for book in BOOKS:
            for lot in all_lots(SIX):
                total = gathers(book, lot, 60)
                self.assertEqual(total, SIXTY if len(lot) >= 4 and book is FULL else 0)
        self.assertEqual(gathers(FULL, SIX, 1000), THOUSAND)

    def test_papers(self):
        for book, days in [(FULL, 300), (LACKING, 1000), (VAIN, 1000)]:
            told = paper(book, SIX, days)
            self.assertEqual(check(book, SIX, days, told), "sum")
            self.refuses(BadPaper, "row", check, book, SIX, days, told[:3] + (told[3] + ((days, 0, 1),),))
        self.refuses(TooMany, 2000, paper, FULL, SIX, 1000)
        small = Book(SIX, [clause.changed("cap", 1) for clause in FULL.clauses], EVERY_PAIR)
        self.refuses(TooMany, 2000, paper, small, SIX, 1)
        freed = Book(SIX, list(FULL.clauses[:4]) + [Clause(SIX, (SIX,) * 4, TOP)])
        self.assertEqual(check(freed, SIX, 1000, paper(freed, SIX, 1000)), "free")

    def test_wishes(self):
        for wish in [("once", TOP - 2), ("days", 60, SIXTY), ("days", 60, 1)]:
            self.assertEqual(least_lots(FULL, wish), tuple(itertools.combinations(SIX, 4)))
            self.assertEqual(bars(FULL, wish), tuple(itertools.combinations(SIX, 3)))
            self.assertEqual(spared(FULL, wish), 2)
            for book in BOOKS:
                for lot in all_lots(SIX):
                    self.assertIs(fulfils(book, lot, wish), book is FULL and len(lot) >= 4)
            for book in (LACKING, VAIN):
                self.assertEqual((least_lots(book, wish), bars(book, wish)), ((), ((),)))
        for wish in [("once", TOP - 1), ("days", 60, SIXTY + 1)]:
            self.assertEqual((least_lots(FULL, wish), spared(FULL, wish)), ((), None))
        self.assertEqual(levels(FULL, 60), (0,) * 4 + (SIXTY,) * 3)
        self.assertEqual(levels(VAIN, 60), (0,) * 7)


if __name__ == "__main__":
    unittest.main()
