import itertools
import random
import unittest

import plain
from samples import ALONE, BOOK, BOTH, FOLK, GREAT, SIX, Case
from whomaysign.books import Book
from whomaysign.clauses import Clause
from whomaysign.compare import alike, never_needed, parting
from whomaysign.errors import BadPeople
from whomaysign.people import all_lots
from whomaysign.reach import at_once, gathers

ANN = (("ann",),)
BOB = (("bob",),)
FREE = Clause(FOLK, ANN)
NOBODY = Clause(FOLK, ((),))
# Sums of one book and of another one, and the number of days in which they come to something else first.
LATE = [
    ([((1, 1),)], [((1, 1), (3, 2))], 3),
    ([((1, 1),), ((4, 3), (7, 5))], [((1, 1), (4, 2), (7, 3)), ((2, 3), (3, 4), (4, 5))], 20),
    ([((1, 1),), ((4, 4), (7, 7))], [((1, 2), (4, 3), (7, 5)), ((2, 3), (3, 4), (4, 5))], 28),
    ([((1, 1),), ((2, 3), (5, 5), (7, 7))], [((1, 2), (2, 3), (5, 7)), ((2, 2), (5, 3), (7, 4))], 35),
    ([((7, 1),), ((6, 6), (7, 7))], [((7, 2),), ((6, 5), (7, 6))], 42),
]


def summed(*sums, cap=None, slots=ANN):
    return Clause(FOLK, slots, cap, sums)


def capped(many_sums):
    """A book whose clauses pay no more than 1 at once, so that only days may tell it from others."""
    return Book(FOLK, [Clause(FOLK, ANN, 1, sums) for sums in many_sums])


def near(chance, book):
    """A book that is often alike, or parts by little."""
    clauses = list(book.clauses)
    at = chance.randrange(len(clauses))
    clause = clauses[at]
    change = chance.randrange(8)
    if change == 0:
        return Book(book.people, clauses[at:] + clauses[:at], book.lent)
    if change == 1:
        clauses[at] = clause.changed("cap", chance.choice((None, 1, 2, 3, 4)))
    if change == 2:
        clauses[at] = clause.changed("sums", tuple(pair for pair in clause.sums if chance.random() < 0.7))
    if change == 3:
        clauses[at] = clause.changed("sums", tuple((days, most + 1) for days, most in clause.sums))
    if change == 4:
        clauses[at] = clause.changed("slots", clause.slots[::-1])
    if change == 5:
        clauses = (clauses + [clause])[:5]
    if change == 6:
        clauses = clauses[:at] + clauses[at + 1:] or clauses
    if change == 7:
        return Book(book.people, clauses, [pair for pair in book.lent if chance.random() < 0.5])
    return Book(book.people, clauses, book.lent)


def pairs_of_books():
    chance = random.Random(41)
    for book in itertools.chain([BOOK], plain.some_books(42, 60, FOLK), plain.some_books(43, 5, SIX)):
        yield book, book
        for _ in range(3):
            yield book, near(chance, book)
    yield from itertools.combinations(plain.some_books(44, 10, FOLK), 2)


class Alike(Case):

    def judge(self, one, other, told):
        """Checks what is told of two books, whichever is the first."""
        self.assertEqual(parting(one, other), told)
        self.assertEqual(parting(other, one), told)
        self.assertIs(alike(one, other), told is None)

    def test_equal_books(self):
        for book in (BOOK, BOOK.lending("bob", "cat"), Book(FOLK, [NOBODY]), Book(FOLK, [ALONE] * 5)):
            self.judge(book, book, None)
            self.judge(book, Book(tuple(list(book.people)), list(book.clauses), list(book.lent)), None)

    def test_clauses_in_another_order(self):
        clauses = [ALONE, BOTH, FREE, summed((2, 9), slots=BOB), NOBODY]
        for others in list(itertools.permutations(clauses))[::7]:
            self.judge(Book(FOLK, clauses), Book(FOLK, others), None)

    def test_clauses_twice(self):
        # What has no bound has none twice, what has one has it twice.
        self.judge(BOOK, Book(FOLK, [ALONE, BOTH, BOTH]), None)
        self.judge(BOOK, Book(FOLK, [ALONE, ALONE, BOTH]), ("days", ("ann",), 1))
        self.judge(Book(FOLK, [NOBODY]), Book(FOLK, [NOBODY] * 5), None)

    def test_a_cap_alone(self):
        for cap in (1, 499):
            self.judge(BOOK, Book(FOLK, [ALONE.changed("cap", cap), BOTH]), ("once", ("ann",)))
        # A sum of one day is a bound like a cap.
        for cap in (500, 501, GREAT, None):
            self.judge(BOOK, Book(FOLK, [ALONE.changed("cap", cap), BOTH]), None)
        self.judge(Book(FOLK, [FREE]), Book(FOLK, [FREE.changed("cap", GREAT)]), ("once", ("ann",)))

    def test_the_same_at_once_but_not_in_a_day(self):
        self.judge(Book(FOLK, [FREE.changed("cap", 5)]), Book(FOLK, [summed((1, 5))]), ("days", ("ann",), 1))
        self.judge(Book(FOLK, [summed((1, 9), cap=5)]), Book(FOLK, [summed((1, 5))]), ("days", ("ann",), 1))
        self.judge(Book(FOLK, [summed((1, 5)), summed((2, 5))]), Book(FOLK, [summed((1, 5))]), ("days", ("ann",), 1))

    def test_at_once_ahead_of_days(self):
        # Both differ in what ann gathers in a day, too.
        self.judge(Book(FOLK, [summed((1, 5))]), Book(FOLK, [summed((1, 6))]), ("once", ("ann",)))
        self.judge(Book(FOLK, [summed((1, 5))]), Book(FOLK, [FREE]), ("once", ("ann",)))

    def test_the_first_lot(self):
        # By ann there is the same at once, but not in two days; by bob it is not the same at once.
        one = Book(FOLK, [summed((1, 5)), summed((1, 5), slots=BOB)])
        other = Book(FOLK, [summed((1, 5), (2, 9)), summed((1, 6), slots=BOB)])
        self.judge(one, other, ("days", ("ann",), 2))
        other = Book(FOLK, [summed((1, 5)), summed((1, 6), slots=BOB)])
        self.judge(one, other, ("once", ("ann", "bob")))
        other = Book(FOLK, [summed((1, 5)), summed((1, 5), (2, 9), slots=BOB)])
        self.judge(one, other, ("days", ("ann", "bob"), 2))
        # Lots stand in the order of tuples, not of their sizes.
        both = Book(FOLK, [BOTH.changed("cap", 1), summed((1, 5), slots=(("cat",),))])
        self.judge(both, Book(FOLK, [BOTH, summed((1, 6), slots=(("cat",),))]), ("once", ("ann", "bob")))
        self.judge(both, Book(FOLK, [BOTH.changed("cap", 1), summed((1, 6), slots=(("cat",),))]), (
            "once", ("ann", "bob", "cat")))
        self.judge(both.without(0), Book(FOLK, [summed((1, 6), slots=(("cat",),))]), ("once", ("ann", "bob", "cat")))

    def test_the_last_lot(self):
        others = ("ann", "bob")
        for slots in [(FOLK, FOLK, FOLK), (("cat",), others, others)]:
            one, other = Book(FOLK, [summed((1, 5), slots=slots)]), Book(FOLK, [summed((1, 6), slots=slots)])
            self.judge(one, other, ("once", FOLK))
        one, other = (Book(("a", "b"), [Clause(("a", "b"), (("b",),), cap)]) for cap in (1, 2))
        self.judge(one, other, ("once", ("a", "b")))
        one, other = (Book(("a",), [Clause(("a",), (("a",),), cap)]) for cap in (1, 2))
        self.judge(one, other, ("once", ("a",)))

    def test_a_lent_hand(self):
        self.judge(BOOK, BOOK.lending("bob", "cat"), ("once", ("ann", "cat")))
        self.judge(BOOK, BOOK.lending("ann", "cat"), ("once", ("ann", "cat")))
        self.judge(BOOK, BOOK.lending("cat", "ann"), None)
        # Whoever lends a hand to cat still signs beside her.
        self.judge(BOOK.lending("bob", "cat"), BOOK.lending("ann", "cat"), None)
        # What is lent on from one to another need not be lent to the last one, too.
        chain = BOOK.lending("ann", "bob").lending("bob", "cat")
        self.judge(chain, chain.lending("ann", "cat"), None)

    def test_a_sum_of_seven_days(self):
        daily = summed((1, 1))
        self.judge(Book(FOLK, [daily]), Book(FOLK, [summed((1, 1), (7, 7))]), None)
        self.judge(Book(FOLK, [daily]), Book(FOLK, [summed((1, 1), (7, 6))]), ("days", ("ann",), 7))
        self.judge(Book(FOLK, [daily]), Book(FOLK, [summed((1, 1), (7, 4))]), ("days", ("ann",), 5))
        self.judge(Book(FOLK, [summed((1, 1), (7, 5))]), Book(FOLK, [summed((1, 1), (7, 6))]), ("days", ("ann",), 6))

    def test_needless_sums(self):
        # A window of 7 days that costs what one of 3 and one of 4 days cost together is never wanted.
        self.judge(Book(FOLK, [summed((3, 3), (4, 4))]), Book(FOLK, [summed((3, 3), (4, 4), (7, 7))]), None)
        self.judge(Book(FOLK, [summed((3, 3), (4, 4))]), Book(FOLK, [summed((3, 3), (4, 4), (7, 6))]), (
            "days", ("ann",), 7))
        # Nor is one that is shorter and no cheaper than another one.
        self.judge(Book(FOLK, [summed((4, 4))]), Book(FOLK, [summed((3, 4), (4, 4))]), None)

    def test_alike_for_many_days(self):
        for sums, others, days in LATE:
            one, other = capped(sums), capped(others)
            self.judge(one, other, ("days", ("ann",), days))
            for lot in all_lots(FOLK):
                self.assertEqual(at_once(one, lot), at_once(other, lot))
                self.assertEqual(gathers(one, lot, days - 1), gathers(other, lot, days - 1))
                self.assertIs(gathers(one, lot, days) == gathers(other, lot, days), "ann" not in lot)
            # Whatever has no bound hides it.
            free = FREE.changed("cap", 1)
            self.judge(Book(FOLK, list(one.clauses) + [free]), Book(FOLK, list(other.clauses) + [free]), None)

    def test_alike_for_ever_by_other_clauses(self):
        # Each pays 3 on each second day at least, the one by two clauses and the other one by one.
        self.judge(capped([((2, 1),), ((2, 2),)]), capped([((2, 3),)]), None)
        self.judge(capped([((2, 1),), ((4, 2),)]), capped([((2, 2),), ((4, 1),)]), ("days", ("ann",), 3))

    def test_beside_a_plain_count(self):
        told = []
        for one, other in pairs_of_books():
            told.append(plain.parting(one, other, 90))
            self.judge(one, other, told[-1])
        kinds = [None if way is None else way[0] for way in told]
        for kind in (None, "once", "days"):
            self.assertGreater(kinds.count(kind), 20)
        self.assertGreater(len(set(told)), 10)

    def test_books_that_part_in_days_alone(self):
        chance = random.Random(45)
        told = []
        for _ in range(60):
            lengths = [tuple(sorted(chance.sample(range(1, 8), 3))) for _ in range(2)]
            one, other = (
                Book(FOLK, [Clause(FOLK, ANN, 1, tuple(zip(some, sorted(chance.choices(range(1, 9), k=3)))))])
                for some in lengths)
            told.append(plain.parting(one, other, 900))
            self.judge(one, other, told[-1])
        self.assertGreater(len(set(told)), 5)

    def test_kinds_of_what_is_told(self):
        self.assertTrue(plain.same(parting(capped([((1, 1),)]), capped([((1, 2),)])), ("days", ("ann",), 1)))
        self.assertTrue(plain.same(parting(BOOK, BOOK.without(0)), ("once", ("ann",))))

    def test_by_name(self):
        self.assertIs(alike(other=BOOK, one=BOOK), True)
        self.assertEqual(parting(other=BOOK.without(0), one=BOOK), ("once", ("ann",)))
        self.assertEqual(never_needed(book=BOOK.adding(BOTH)), (1, 2))

    def test_nothing_changes(self):
        before = [repr(vars(BOOK)), repr(vars(ALONE)), repr(vars(BOTH))]
        for _ in range(2):
            self.assertEqual(parting(BOOK, BOOK.without(1)), ("once", ("ann", "bob")))
            self.assertEqual(never_needed(BOOK), ())
        self.assertEqual([repr(vars(BOOK)), repr(vars(ALONE)), repr(vars(BOTH))], before)


class NeverNeeded(Case):

    def test_one_clause(self):
        for clause in (ALONE, BOTH, FREE, NOBODY):
            self.assertEqual(never_needed(Book(FOLK, [clause])), ())

    def test_of_the_example(self):
        self.assertEqual(never_needed(BOOK), ())
        self.assertEqual(never_needed(BOOK.adding(NOBODY)), (2,))

    def test_each_by_itself(self):
        self.assertEqual(never_needed(Book(FOLK, [BOTH, BOTH])), (0, 1))
        self.assertEqual(never_needed(Book(FOLK, [NOBODY] * 5)), (0, 1, 2, 3, 4))
        self.assertEqual(never_needed(Book(FOLK, [ALONE, ALONE])), ())

    def test_what_others_make_up_for(self):
        # Without a bound ann needs no other clause of her own, but bob does.
        self.assertEqual(never_needed(Book(FOLK, [FREE, summed((1, 5))])), (1,))
        self.assertEqual(never_needed(Book(FOLK, [FREE, summed((1, 5), slots=(("ann", "bob"),))])), ())
        # A cap is no bound of what is gathered, but one of what is paid at once.
        self.assertEqual(never_needed(Book(FOLK, [FREE.changed("cap", 5), summed((1, 5))])), (1,))
        self.assertEqual(never_needed(Book(FOLK, [FREE.changed("cap", 5), summed((1, 6))])), ())
        # Two must sign where one of them could.
        self.assertEqual(never_needed(Book(FOLK, [Clause(FOLK, (FOLK,)), BOTH])), (1,))

    def test_hands_that_are_lent(self):
        book = Book(FOLK, [FREE, Clause(FOLK, (("bob",),))])
        self.assertEqual(never_needed(book), ())
        self.assertEqual(never_needed(book.lending("ann", "bob")), (1,))
        self.assertEqual(never_needed(book.lending("ann", "bob").lending("bob", "ann")), (0, 1))

    def test_beside_a_plain_count(self):
        told = []
        for book in itertools.chain([BOOK], plain.some_books(46, 80, FOLK), plain.some_books(47, 5, SIX)):
            rest = [
                number for number in range(len(book))
                if len(book) > 1 and plain.parting(book, book.without(number), 90) is None]
            told.append(never_needed(book))
            self.assertEqual(told[-1], tuple(rest))
            self.assertIs(type(told[-1]), tuple)
        self.assertGreater(len(set(told)), 8)


class Refusing(Case):

    def test_other_people(self):
        for people in [("ann",), ("ann", "bob"), ("ann", "bob", "dan"), ("bob", "cat"), SIX, ("a", "b", "c")]:
            other = Book(people, [Clause(people, (people,))])
            for asked in (alike, parting):
                self.refuses(BadPeople, people, asked, BOOK, other)
                self.refuses(BadPeople, FOLK, asked, other, BOOK)
                self.refuses(BadPeople, FOLK, asked, other=BOOK, one=other)


if __name__ == "__main__":
    unittest.main()
