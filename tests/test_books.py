import itertools
import unittest

from samples import (ALONE, BOOK, BOTH, FOLK, NO_PERSON, SIX, STRANGE, WRONG_LENT, WRONG_PEOPLE, Case, wrong_numbers)
from whomaysign.books import Book
from whomaysign.clauses import Clause
from whomaysign.errors import BadBook, BadNumber, BadPeople
from whomaysign.people import all_lots

ALL_PAIRS = tuple(itertools.permutations(FOLK, 2))
OTHERS = Clause(SIX, (("ann",),))
FIVE = tuple(Clause(FOLK, (("ann",),), cap) for cap in range(1, 6))


def fields(book):
    return book.people, book.clauses, book.lent


def all_lent():
    """All that can be lent among three people."""
    for many in range(len(ALL_PAIRS) + 1):
        yield from itertools.combinations(ALL_PAIRS, many)


class Making(Case):

    def test_fields(self):
        book = Book(FOLK, [ALONE, BOTH], [("bob", "cat"), ("ann", "bob")])
        self.assertEqual(fields(book), (FOLK, (ALONE, BOTH), (("ann", "bob"), ("bob", "cat"))))
        self.assertEqual([type(field) for field in fields(book)], [tuple, tuple, tuple])
        self.assertEqual(set(vars(book)), {"people", "clauses", "lent"})

    def test_nothing_lent(self):
        for book in [Book(FOLK, [ALONE]), Book(FOLK, [ALONE], ()), Book(FOLK, [ALONE], [])]:
            self.assertEqual(fields(book), (FOLK, (ALONE,), ()))

    def test_lists_and_tuples(self):
        for many in range(1, 6):
            self.assertEqual(Book(FOLK, FIVE[:many]).clauses, FIVE[:many])
            self.assertEqual(Book(FOLK, list(FIVE[:many])).clauses, FIVE[:many])

    def test_alike_clauses(self):
        self.assertEqual(Book(FOLK, [ALONE] * 5).clauses, (ALONE,) * 5)
        self.assertEqual(Book(FOLK, [ALONE, ALONE.changed("cap", 500)]).clauses, (ALONE, ALONE))

    def test_lent_in_any_order(self):
        for pairs in itertools.permutations(ALL_PAIRS[:4]):
            self.assertEqual(Book(FOLK, [ALONE], pairs).lent, tuple(sorted(pairs)))
            self.assertEqual(Book(FOLK, [ALONE], list(pairs)).lent, tuple(sorted(pairs)))

    def test_all_that_can_be_lent(self):
        for lent in all_lent():
            self.assertEqual(Book(FOLK, [ALONE], lent).lent, lent)
        every = tuple(itertools.permutations(SIX, 2))
        self.assertEqual(Book(SIX, [OTHERS], every[::-1]).lent, every)

    def test_one_person(self):
        book = Book(("a",), [Clause(("a",), (("a",),))])
        self.assertEqual((book.people, book.lent, len(book)), (("a",), (), 1))

    def test_by_name_in_any_order(self):
        book = Book(lent=[("cat", "ann")], clauses=(BOTH,), people=FOLK)
        self.assertEqual(fields(book), (FOLK, (BOTH,), (("cat", "ann"),)))

    def test_equal_people_of_clauses_are_enough(self):
        alone = Clause(tuple(["ann", "bob", "cat"]), (("ann",),))
        self.assertEqual(Book(FOLK, [alone]).clauses, (alone,))


class Refusing(Case):

    def test_people(self):
        for people in WRONG_PEOPLE:
            self.refuses(BadPeople, people, Book, people, [ALONE])

    def test_no_clauses(self):
        for clauses in [value for value in STRANGE if value not in (["ann"], [[]])] + [
                (), [], FIVE + (ALONE,), [ALONE] * 6, [None] * 6, (ALONE,) * 5000, {0: ALONE}, {ALONE.cap: ALONE},
                iter([ALONE]), (clause for clause in [ALONE])]:
            self.refuses(BadBook, None, Book, FOLK, clauses)

    def test_first_item_that_is_no_clause(self):
        for item in [value for value in STRANGE if value is not ALONE] + [OTHERS, (), (ALONE,), [ALONE], FOLK]:
            for at in range(5):
                clauses = list(FIVE)
                clauses[at] = item
                self.refuses(BadBook, at, Book, FOLK, clauses)
                self.refuses(BadBook, at, Book, FOLK, tuple(clauses[:at + 1]))
                self.refuses(BadBook, at, Book, FOLK, clauses[:at] + [item] * (5 - at))

    def test_clauses_of_fewer_people(self):
        self.refuses(BadBook, 0, Book, SIX, [ALONE, BOTH])
        self.refuses(BadBook, 1, Book, SIX, [OTHERS, BOTH, None])

    def test_lent(self):
        for lent in WRONG_LENT:
            self.refuses(BadBook, "lent", Book, FOLK, [ALONE], lent)
        self.refuses(BadBook, "lent", Book, FOLK, [ALONE], list(ALL_PAIRS) + [("ann", "dan")])

    def test_lent_of_one_person(self):
        only = Clause(("a",), (("a",),))
        self.refuses(BadBook, "lent", Book, ("a",), [only], [("a", "a")])
        self.refuses(BadBook, "lent", Book, ("a",), [only], [("a", "b")])

    def test_first_one_listed(self):
        self.refuses(BadPeople, None, Book, None, None, None)
        self.refuses(BadPeople, (), Book, (), [ALONE], [])
        self.refuses(BadBook, None, Book, FOLK, None, None)
        self.refuses(BadBook, None, Book, FOLK, [None] * 6, None)
        self.refuses(BadBook, 1, Book, FOLK, [ALONE, None], None)
        self.refuses(BadBook, "lent", Book, FOLK, [ALONE], None)


class Reading(Case):

    def test_len(self):
        for many in range(1, 6):
            self.assertEqual(len(Book(FOLK, FIVE[:many])), many)

    def test_items(self):
        for many in range(1, 6):
            book = Book(FOLK, FIVE[:many])
            for number in range(many):
                self.assertIs(book[number], FIVE[number])
            for number in wrong_numbers(many):
                self.refuses(BadNumber, number, lambda book=book, number=number: book[number])

    def test_equal(self):
        one = Book(FOLK, [ALONE, BOTH], [("ann", "bob"), ("bob", "ann")])
        other = Book(tuple(list(FOLK)), (ALONE.changed("cap", 500), BOTH), (("bob", "ann"), ("ann", "bob")))
        self.assertIs(one == other, True)
        self.assertIs(one != other, False)
        self.assertIs(one == one, True)

    def test_each_field_counts(self):
        one = Book(FOLK, [ALONE, BOTH], [("ann", "bob")])
        nobody = Book(FOLK, [Clause(FOLK, ((),))])
        self.assertIs(nobody == Book(SIX, [Clause(SIX, ((),))]), False)
        for other in [
                Book(FOLK, [BOTH, ALONE], [("ann", "bob")]), Book(FOLK, [ALONE], [("ann", "bob")]),
                Book(FOLK, [ALONE, BOTH.changed("cap", 1)], [("ann", "bob")]), Book(FOLK, [ALONE, BOTH]),
                Book(FOLK, [ALONE, BOTH], [("bob", "ann")]), nobody]:
            self.assertIs(one == other, False)
            self.assertIs(one != other, True)
            self.assertIs(other == one, False)

    def test_other_values(self):
        for value in STRANGE + [fields(BOOK), (ALONE, BOTH), [ALONE, BOTH]]:
            if value is not BOOK:
                self.assertIs(BOOK == value, False)
                self.assertIs(value == BOOK, False)
                self.assertIs(BOOK != value, True)
                self.assertIs(value != BOOK, True)


class Adding(Case):

    def test_at_the_end(self):
        book = Book(FOLK, FIVE[:1], [("ann", "bob")])
        for many in range(1, 5):
            book = book.adding(FIVE[many])
            self.assertIs(type(book), Book)
            self.assertEqual(fields(book), (FOLK, FIVE[:many + 1], (("ann", "bob"),)))
        self.assertEqual(BOOK.adding(ALONE).clauses, (ALONE, BOTH, ALONE))
        self.assertEqual(BOOK.clauses, (ALONE, BOTH))

    def test_wrong(self):
        for many in range(1, 6):
            book = Book(FOLK, FIVE[:many])
            for clause in [value for value in STRANGE if value is not ALONE] + [OTHERS, (ALONE,), [ALONE]]:
                self.refuses(BadBook, many, book.adding, clause)

    def test_more_than_five(self):
        self.refuses(BadBook, None, Book(FOLK, FIVE).adding, ALONE)

    def test_by_name(self):
        self.assertEqual(BOOK.adding(clause=BOTH).clauses, (ALONE, BOTH, BOTH))


class Without(Case):

    def test_each(self):
        for many in range(2, 6):
            book = Book(FOLK, FIVE[:many], [("ann", "bob")])
            for number in range(many):
                rest = book.without(number)
                self.assertIs(type(rest), Book)
                clauses = tuple(clause for clause in FIVE[:many] if clause.cap != number + 1)
                self.assertEqual(fields(rest), (FOLK, clauses, (("ann", "bob"),)))
            self.assertEqual(len(book), many)

    def test_one_of_alike_clauses(self):
        book = Book(FOLK, [ALONE, BOTH, ALONE])
        self.assertEqual(book.without(0).clauses, (BOTH, ALONE))
        self.assertEqual(book.without(2).clauses, (ALONE, BOTH))

    def test_wrong(self):
        for many in range(1, 6):
            book = Book(FOLK, FIVE[:many])
            for number in wrong_numbers(many):
                self.refuses(BadNumber, number, book.without, number)

    def test_the_only_one(self):
        self.refuses(BadNumber, 0, Book(FOLK, [ALONE]).without, 0)
        self.refuses(BadNumber, None, Book(FOLK, [ALONE]).without, None)

    def test_by_name(self):
        self.assertEqual(BOOK.without(number=0).clauses, (BOTH,))


class Lending(Case):

    def test_each_pair(self):
        for lent in all_lent():
            book = Book(FOLK, [ALONE, BOTH], lent)
            for one, other in ALL_PAIRS:
                more = book.lending(one, other)
                self.assertIs(type(more), Book)
                self.assertEqual(fields(more), (FOLK, (ALONE, BOTH), tuple(sorted({*lent, (one, other)}))))
            self.assertEqual(book.lent, lent)

    def test_wrong(self):
        for person in NO_PERSON:
            self.refuses(BadNumber, person, BOOK.lending, person, "ann")
            self.refuses(BadNumber, person, BOOK.lending, "ann", person)
            self.refuses(BadNumber, person, BOOK.lending, person, None)
            self.refuses(BadNumber, person, BOOK.lending, person, person)

    def test_the_same_one(self):
        for person in FOLK:
            self.refuses(BadNumber, person, BOOK.lending, person, person)

    def test_the_first_one_ahead(self):
        self.refuses(BadNumber, "dan", BOOK.lending, "dan", "eve")

    def test_by_name(self):
        self.assertEqual(BOOK.lending(other="ann", one="cat").lent, (("cat", "ann"),))
        self.refuses(BadNumber, "dan", BOOK.lending, other=None, one="dan")


class AsOne(Case):

    def test_every_slot(self):
        for one, other in ALL_PAIRS:
            people = tuple(name for name in FOLK if name != other)
            for slots in itertools.product(all_lots(FOLK), repeat=2):
                book = Book(FOLK, [Clause(FOLK, slots, 5, ((2, 3),)), BOTH]).as_one(one, other)
                self.assertEqual((book.people, book[0].people, book[1].people), (people,) * 3)
                self.assertEqual((book[0].cap, book[0].sums, book[1].cap, book[1].sums), (5, ((2, 3),), None, ()))
                for slot, lot in zip(slots, book[0].slots, strict=True):
                    told = [name for name in people if name in slot or name == one and other in slot]
                    self.assertEqual(lot, tuple(told))

    def test_all_that_is_lent(self):
        for one, other in ALL_PAIRS:
            third = [name for name in FOLK if name not in (one, other)][0]
            for lent in all_lent():
                book = Book(FOLK, [ALONE], lent).as_one(one, other)
                told = []
                if (one, third) in lent or (other, third) in lent:
                    told.append((one, third))
                if (third, one) in lent or (third, other) in lent:
                    told.append((third, one))
                self.assertEqual(book.lent, tuple(sorted(told)))

    def test_names_that_change_places(self):
        six = Book(SIX, [Clause(SIX, (("ann", "bob", "cat"), ("ann",), SIX))], [("ann", "bob"), ("bob", "ann")])
        book = six.as_one("fay", "ann")
        self.assertIs(type(book), Book)
        people = ("bob", "cat", "dan", "eve", "fay")
        self.assertEqual(book.people, people)
        self.assertEqual(book[0].slots, (("bob", "cat", "fay"), ("fay",), people))
        self.assertEqual(book.lent, (("bob", "fay"), ("fay", "bob")))
        self.assertEqual(six.people, SIX)
        self.assertEqual(six.lent, (("ann", "bob"), ("bob", "ann")))

    def test_down_to_one_person(self):
        book = BOOK.lending("ann", "cat").as_one("cat", "ann").as_one("bob", "cat")
        only = ("bob",)
        self.assertEqual(book, Book(only, [
            Clause(only, (only,), 500, ((1, 500), (3, 1000))), Clause(only, (only, only))]))
        self.refuses(BadNumber, "bob", book.as_one, "bob", "bob")
        self.refuses(BadNumber, "ann", book.as_one, "bob", "ann")

    def test_wrong(self):
        for person in NO_PERSON:
            self.refuses(BadNumber, person, BOOK.as_one, person, "ann")
            self.refuses(BadNumber, person, BOOK.as_one, "ann", person)
            self.refuses(BadNumber, person, BOOK.as_one, person, None)
            self.refuses(BadNumber, person, BOOK.as_one, person, person)
        for person in FOLK:
            self.refuses(BadNumber, person, BOOK.as_one, person, person)
        self.refuses(BadNumber, "dan", BOOK.as_one, "dan", "eve")

    def test_by_name(self):
        self.assertEqual(BOOK.as_one(other="ann", one="cat"), BOOK.as_one("cat", "ann"))
        self.assertEqual(BOOK.as_one(other="ann", one="cat").people, ("bob", "cat"))


class Leaving(Case):

    def test_every_slot(self):
        for person in FOLK:
            people = tuple(name for name in FOLK if name != person)
            for slots in itertools.product(all_lots(FOLK), repeat=2):
                book = Book(FOLK, [BOTH, Clause(FOLK, slots, 5, ((2, 3),))]).leaving(person)
                rest = tuple(tuple(name for name in lot if name != person) for lot in slots)
                self.assertEqual(book.people, people)
                self.assertEqual(book[0].people, people)
                self.assertEqual(book[1], Clause(people, rest, 5, ((2, 3),)))

    def test_all_that_is_lent(self):
        for person in FOLK:
            for lent in all_lent():
                book = Book(FOLK, [ALONE], lent)
                rest = book.leaving(person)
                self.assertIs(type(rest), Book)
                self.assertEqual(rest.lent, tuple(pair for pair in lent if person not in pair))
                self.assertEqual(fields(book), (FOLK, (ALONE,), lent))

    def test_the_only_one(self):
        book = BOOK.leaving("ann").leaving("cat")
        only = ("bob",)
        self.assertEqual(book, Book(only, [
            Clause(only, (only,), 500, ((1, 500), (3, 1000))), Clause(only, (only, only))]))
        self.refuses(BadNumber, "bob", book.leaving, "bob")
        self.refuses(BadNumber, "ann", book.leaving, "ann")
        self.refuses(BadNumber, None, book.leaving, None)

    def test_wrong(self):
        for person in NO_PERSON:
            self.refuses(BadNumber, person, BOOK.leaving, person)

    def test_by_name(self):
        self.assertEqual(BOOK.leaving(person="cat").people, ("ann", "bob"))


if __name__ == "__main__":
    unittest.main()
