import ast
import itertools
import pathlib
import unittest

import plain
from samples import ALONE, BOOK, BOTH, FOLK, GREAT, SIX, WRONG_LOTS, Case, wrong_numbers
from whomaysign import second
from whomaysign.books import Book
from whomaysign.clauses import Clause
from whomaysign.covers import cover, least_cost, spread
from whomaysign.errors import BadLot, BadNumber
from whomaysign.hands import filling, short, signs
from whomaysign.people import all_lots
from whomaysign.second import cost_too, signs_too

PAIRS = list(itertools.permutations(FOLK, 2))


def book_of(people, slots, lent=()):
    return Book(people, [Clause(people, slots)], lent)


def books():
    lots = all_lots(FOLK)
    for slots in [(lot,) for lot in lots] + list(itertools.product(lots, repeat=2)):
        for lent in [(), PAIRS[:1], (("ann", "bob"), ("bob", "cat")), (("cat", "ann"), ("ann", "cat"))]:
            yield book_of(FOLK, slots, lent)
    yield from plain.some_books(51, 80, FOLK)
    yield from plain.some_books(52, 40, SIX)


def clause_of(*sums):
    return Clause(FOLK, (FOLK,), None, sums)


def clauses():
    yield from (ALONE, BOTH, clause_of((1, 1)), clause_of((7, 1)), clause_of((2, 3), (3, 4)), clause_of((6, 6), (7, 7)))
    # Windows of a greater cost that hold fewer days, and of the same cost, and some of many figures.
    yield from (clause_of((2, 9), (3, 1), (4, 5)), clause_of((1, 5), (2, 5), (7, 5)), clause_of((3, 10), (5, 11)))
    yield from (clause_of((1, GREAT), (2, 2 * GREAT - 1), (7, 7 * GREAT - 4)), clause_of((4, 3), (5, 4), (7, 5)))
    for book in itertools.chain(plain.some_books(53, 60, FOLK, 9), plain.some_books(54, 20, FOLK, GREAT)):
        yield from book.clauses


class SignsToo(Case):

    def test_of_the_example(self):
        for lot in all_lots(FOLK):
            self.assertIs(signs_too(BOOK, lot, 0), lot != ())
            self.assertIs(signs_too(BOOK, lot, 1), "ann" in lot and "bob" in lot)
        self.assertIs(signs_too(BOOK.lending("bob", "cat"), ("ann", "cat"), 1), True)
        self.assertIs(signs_too(BOOK.lending("cat", "bob"), ("ann", "cat"), 1), False)

    def test_beside_signs_and_a_plain_count(self):
        told = []
        for book in books():
            for lot in all_lots(book.people):
                for number in range(len(book)):
                    told.append(signs_too(book, lot, number))
                    self.assertIs(told[-1], signs(book, lot, number))
                    self.assertIs(told[-1], plain.signs(book, lot, number))
                    self.assertIs(told[-1], filling(book, lot, number) is not None)
                    self.assertIs(told[-1], short(book, lot, number) is None)
        self.assertGreater(min(told.count(True), told.count(False)), 500)

    def test_all_that_can_be_lent(self):
        slots = (("ann",), ("bob", "cat"))
        for lent in plain.all_parts(PAIRS):
            book = book_of(FOLK, slots, lent)
            for lot in all_lots(FOLK):
                self.assertIs(signs_too(book, lot, 0), plain.signs(book, lot, 0))

    def test_the_longest_rows_of_pairs(self):
        for path in list(itertools.permutations(SIX))[::17]:
            book = book_of(SIX, ((path[0],), (path[5],)), list(zip(path, path[1:])))
            for person in path[:5]:
                self.assertIs(signs_too(book, tuple(sorted((person, path[5]))), 0), True)
            self.assertIs(signs_too(book, (path[5],), 0), False)
            self.assertIs(signs_too(book, tuple(sorted(path[:5])), 0), False)

    def test_rings(self):
        ring = [("ann", "bob"), ("bob", "cat"), ("cat", "ann")]
        for many in range(1, 5):
            book = book_of(SIX, (("bob",),) * many, ring)
            self.assertIs(signs_too(book, FOLK, 0), many <= 3)
            self.assertIs(signs_too(book, ("dan", "eve", "fay"), 0), False)

    def test_each_person_once(self):
        for many in range(1, 5):
            for size in range(7):
                self.assertIs(signs_too(book_of(SIX, (SIX,) * many), SIX[:size], 0), size >= many)
                self.assertIs(signs_too(book_of(SIX, (SIX,) * (many - 1) + ((),)), SIX[:size], 0), False)

    def test_whom_one_slot_takes_is_wanted_for_another(self):
        for slots in itertools.permutations((SIX, SIX[:3], SIX[:2], SIX[:1])):
            self.assertIs(signs_too(book_of(SIX, slots), SIX[:4], 0), True)
            self.assertIs(signs_too(book_of(SIX, slots), SIX[:2] + SIX[3:], 0), False)
            self.assertIs(signs_too(book_of(SIX, slots), SIX[1:], 0), False)

    def test_by_name(self):
        self.assertIs(signs_too(number=1, lot=("ann", "bob"), book=BOOK), True)


class CostToo(Case):

    def test_of_the_example(self):
        self.assertEqual([cost_too(ALONE, days) for days in range(8)], [0, 500, 1000, 1000, 1500, 2000, 2000, 2500])

    def test_no_sums(self):
        for clause in (BOTH, BOTH.changed("cap", 5)):
            self.assertEqual(cost_too(clause, 0), 0)
            for days in range(1, 41):
                self.assertIs(cost_too(clause, days), None)

    def test_beside_least_cost(self):
        for clause in clauses():
            for days in range(41):
                self.assertEqual(cost_too(clause, days), least_cost(clause, days), (vars(clause), days))

    def test_beside_covers_and_amounts(self):
        for clause in clauses():
            if clause.sums:
                for days in (0, 1, 6, 13, 40):
                    self.assertEqual(cost_too(clause, days), plain.cost(clause, cover(clause, days)))
                    self.assertEqual(cost_too(clause, days), sum(spread(clause, days)))

    def test_beside_a_plain_count(self):
        small = itertools.product(range(1, 4), repeat=3)
        for sums in [((1, a), (2, b), (5, c)) for a, b, c in small] + [((2, 1), (3, 2)), ((4, 1),), ((3, 2), (4, 3))]:
            for days in range(6):
                told = cost_too(clause_of(*sums), days)
                self.assertTrue(plain.whole(told))
                self.assertEqual(told, plain.cheapest(clause_of(*sums), days))
                if days < 5:
                    self.assertEqual(told, plain.most_total(clause_of(*sums), days))

    def test_a_cap_is_no_bound_of_a_cover(self):
        for days in range(41):
            self.assertEqual(cost_too(ALONE.changed("cap", 1), days), cost_too(ALONE, days))

    def test_by_name(self):
        self.assertEqual(cost_too(days=7, clause=ALONE), 2500)


class Refusing(Case):

    def test_lot(self):
        for lot in WRONG_LOTS:
            self.refuses(BadLot, lot, signs_too, BOOK, lot, 0)

    def test_number(self):
        for many in (1, 2, 5):
            book = Book(FOLK, [ALONE] * many)
            for number in wrong_numbers(many):
                for lot in ((), ("ann",)):
                    self.refuses(BadNumber, number, signs_too, book, lot, number)

    def test_lot_ahead_of_number(self):
        self.refuses(BadLot, None, signs_too, BOOK, None, None)
        self.refuses(BadLot, ("dan",), signs_too, number=2, lot=("dan",), book=BOOK)
        self.refuses(BadNumber, 2, signs_too, BOOK, (), 2)

    def test_days(self):
        for clause in (ALONE, BOTH):
            for days in wrong_numbers(41):
                self.refuses(BadNumber, days, cost_too, clause, days)

    def test_the_bounds_of_days(self):
        for days in range(-3, 50):
            if 0 <= days <= 40:
                self.assertEqual(cost_too(ALONE, days), least_cost(ALONE, days))
            else:
                self.refuses(BadNumber, days, cost_too, ALONE, days)
        self.refuses(BadNumber, 1000, cost_too, days=1000, clause=BOTH)


class OtherWays(unittest.TestCase):

    def test_nothing_of_hands_and_covers_is_used(self):
        tree = ast.parse(pathlib.Path(second.__file__).read_text(encoding="utf-8"))
        used = {node.module for node in ast.walk(tree) if isinstance(node, ast.ImportFrom)}
        self.assertEqual(used & {"whomaysign.hands", "whomaysign.covers", "whomaysign.reach", "whomaysign.lots"}, set())


if __name__ == "__main__":
    unittest.main()
