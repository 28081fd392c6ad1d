import itertools
import unittest

import plain
from samples import ALONE, BOTH, FOLK, GREAT, KINDS, THINGS, Case, wrong_numbers
from whomaysign.clauses import Clause
from whomaysign.covers import cover, is_cover, least_cost, spread
from whomaysign.errors import BadNumber

WRONG_DAYS = wrong_numbers(1001)
ASKED = [least_cost, cover, spread, lambda clause, days: is_cover(clause, days, None)]
FREE = Clause(FOLK, (FOLK,), 5)
SUMS = [
    ((1, 500), (3, 1000)), ((1, 3), (2, 4), (7, 9)), ((7, 1),), ((1, 1),), ((2, 9), (3, 1), (4, 5)), ((3, 10), (5, 11)),
    ((1, 10), (6, 25), (7, 26)), ((1, GREAT), (7, 3 * GREAT + 1)), ((2, GREAT), (3, GREAT + 5), (5, 2 * GREAT)),
    ((4, 7), (5, 7), (6, 7)), ((1, 1), (7, GREAT)), ((3, 5), (7, 11)),
]


def clause_of(*sums):
    return Clause(FOLK, (FOLK,), None, tuple(sums))


def small_clauses():
    """Every clause with up to two sums of up to 3 in up to three days, and some with more."""
    pairs = list(itertools.product((1, 2, 3), (1, 2, 3)))
    for some in plain.all_parts(pairs):
        if len(some) <= 3 and len({days for days, _ in some}) == len(some):
            yield clause_of(*some)


class LeastCost(Case):

    def test_of_the_example(self):
        self.assertEqual([least_cost(ALONE, days) for days in range(9)], [
            0, 500, 1000, 1000, 1500, 2000, 2000, 2500, 3000])

    def test_no_sums(self):
        for clause in (FREE, BOTH):
            self.assertEqual(least_cost(clause, 0), 0)
            for days in (1, 2, 60, 1000):
                self.assertIs(least_cost(clause, days), None)

    def test_no_days(self):
        for sums in SUMS:
            self.assertEqual((least_cost(clause_of(*sums), 0), spread(clause_of(*sums), 0)), (0, ()))
            self.assertEqual(cover(clause_of(*sums), 0), ())

    def test_the_cap_does_not_count(self):
        for days in (0, 1, 5, 1000):
            self.assertEqual(least_cost(ALONE.changed("cap", 1), days), least_cost(ALONE.changed("cap", None), days))

    def test_one_sum(self):
        for length in range(1, 8):
            for days in (0, 1, 2, 6, 7, 8, 13, 14, 15, 60, 999, 1000):
                self.assertEqual(least_cost(clause_of((length, 5)), days), 5 * -(-days // length))

    def test_the_longer_sum_is_cheaper_for_fewer_days(self):
        self.assertEqual([least_cost(clause_of((1, 5), (7, 2)), days) for days in (1, 7, 8, 9)], [2, 2, 4, 4])

    def test_sums_that_must_be_mixed(self):
        # Neither sum alone is the best of 8 days: one window of each is.
        clause = clause_of((3, 5), (5, 8))
        self.assertEqual([least_cost(clause, days) for days in (5, 6, 8, 9, 11)], [8, 10, 13, 15, 18])

    def test_many_days_and_figures(self):
        self.assertEqual(least_cost(clause_of((7, GREAT)), 1000), 143 * GREAT)
        self.assertEqual(least_cost(clause_of((1, GREAT), (7, 7 * GREAT - 1)), 1000), 142 * (7 * GREAT - 1) + 6 * GREAT)
        self.assertEqual(least_cost(clause_of((1, 10 ** 1000 - 1)), 1000), 1000 * (10 ** 1000 - 1))

    def test_a_plain_count(self):
        for clause in small_clauses():
            for days in range(4):
                told = least_cost(clause, days)
                self.assertEqual(told, plain.cheapest(clause, days))
                # The fact: the greatest total of the amounts is the least cost.
                self.assertEqual(told, plain.most_total(clause, days))

    def test_a_plain_count_of_more_days(self):
        for sums in [((1, 2), (4, 5)), ((2, 2), (3, 3)), ((2, 3), (5, 4)), ((4, 2), (5, 3)), ((3, 2),)]:
            for days in (4, 5, 6):
                self.assertEqual(least_cost(clause_of(*sums), days), plain.most_total(clause_of(*sums), days))


class Covers(Case):

    def test_of_the_example(self):
        self.assertEqual(cover(ALONE, 3), ((0, 3),))
        self.assertEqual(sum(spread(ALONE, 3)), 1000)

    def test_no_sums(self):
        for clause in (FREE, BOTH):
            self.assertEqual((cover(clause, 0), spread(clause, 0)), ((), ()))
            for days in (1, 2, 60, 1000):
                self.assertIs(cover(clause, days), None)
                self.assertIs(spread(clause, days), None)

    def judge(self, clause, days):
        """Checks a cover and a spread by the document's words."""
        windows = cover(clause, days)
        self.assertTrue(plain.is_cover(clause, days, windows))
        self.assertIs(is_cover(clause, days, windows), True)
        self.assertEqual(plain.cost(clause, windows), least_cost(clause, days))
        amounts = spread(clause, days)
        self.assertIs(type(amounts), tuple)
        self.assertEqual(len(amounts), days)
        self.assertTrue(all(plain.whole(amount) for amount in amounts))
        self.assertTrue(plain.amounts_keep(clause, amounts))
        self.assertEqual(sum(amounts), least_cost(clause, days))
        self.assertEqual((windows, amounts), (cover(clause, days), spread(clause, days)))

    def test_small_clauses(self):
        for clause in small_clauses():
            if clause.sums:
                for days in range(8):
                    self.judge(clause, days)

    def test_many_days_and_figures(self):
        for sums in SUMS:
            for days in (1, 6, 7, 8, 30, 60, 999, 1000):
                self.judge(clause_of(*sums), days)

    def test_by_name(self):
        self.assertEqual(least_cost(days=3, clause=ALONE), 1000)
        self.assertEqual(cover(days=3, clause=ALONE), ((0, 3),))
        self.assertEqual(sum(spread(days=3, clause=ALONE)), 1000)
        self.assertIs(is_cover(thing=((0, 3),), days=3, clause=ALONE), True)


class IsCover(Case):

    def test_every_tuple_of_windows(self):
        windows = list(itertools.product(range(4), range(1, 4)))
        for clause in (ALONE, clause_of((2, 1)), clause_of((1, 1), (2, 1), (3, 1)), FREE):
            for days in range(5):
                for many in range(4):
                    for thing in itertools.product(windows, repeat=many):
                        self.assertIs(is_cover(clause, days, thing), plain.is_cover(clause, days, thing))

    def test_the_same_window_twice(self):
        self.assertIs(is_cover(ALONE, 3, ((0, 3), (0, 3))), True)
        self.assertIs(is_cover(ALONE, 4, ((0, 3), (0, 3), (3, 1), (3, 1), (3, 1))), True)
        self.assertIs(is_cover(ALONE, 4, ((0, 3), (0, 3), (2, 1))), False)

    def test_ascending(self):
        self.assertIs(is_cover(ALONE, 4, ((0, 1), (1, 3))), True)
        self.assertIs(is_cover(ALONE, 4, ((1, 3), (0, 1))), False)
        self.assertIs(is_cover(ALONE, 3, ((0, 1), (0, 3))), True)
        self.assertIs(is_cover(ALONE, 3, ((0, 3), (0, 1))), False)

    def test_gaps(self):
        self.assertIs(is_cover(ALONE, 4, ((0, 1), (2, 3))), False)
        self.assertIs(is_cover(ALONE, 1, ((0, 1), (2, 3))), True)
        self.assertIs(is_cover(ALONE, 1, ((1, 3),)), False)
        self.assertIs(is_cover(ALONE, 7, ((0, 3), (3, 3), (7, 1))), False)
        self.assertIs(is_cover(ALONE, 7, ((0, 3), (3, 3), (6, 1))), True)

    def test_a_window_inside_of_another(self):
        self.assertIs(is_cover(clause_of((1, 1), (7, 1)), 8, ((0, 7), (1, 1), (7, 1))), True)
        self.assertIs(is_cover(clause_of((1, 1), (7, 1)), 8, ((0, 7), (1, 1), (2, 1))), False)

    def test_needless_windows(self):
        self.assertIs(is_cover(ALONE, 0, ()), True)
        self.assertIs(is_cover(ALONE, 0, ((0, 3), (5, 1))), True)
        self.assertIs(is_cover(ALONE, 0, ((GREAT, 3),)), True)
        self.assertIs(is_cover(ALONE, 2, ((0, 3), (GREAT, 1), (GREAT, 3))), True)
        self.assertIs(is_cover(ALONE, 2, ((GREAT, 1),)), False)

    def test_only_days_of_its_sums(self):
        for length in [*range(-8, 9), GREAT, -GREAT]:
            self.assertIs(is_cover(ALONE, 1, ((0, length),)), length in (1, 3))
            self.assertIs(is_cover(FREE, 0, ((0, length),)), False)

    def test_no_sums(self):
        for clause in (FREE, BOTH):
            self.assertIs(is_cover(clause, 0, ()), True)
            self.assertIs(is_cover(clause, 1, ()), False)

    def test_many_windows(self):
        thing = tuple((day, 1) for day in range(1000))
        self.assertIs(is_cover(ALONE, 1000, thing), True)
        self.assertIs(is_cover(ALONE, 999, thing), True)
        self.assertIs(is_cover(ALONE, 1000, thing[:-1]), False)
        self.assertIs(is_cover(ALONE, 1000, thing[:500] + thing[501:]), False)
        self.assertIs(is_cover(ALONE, 1000, ((0, 1),) * 6000), False)

    def test_any_value(self):
        for thing in THINGS:
            empty = type(thing) is tuple and thing == ()
            for clause in (ALONE, FREE):
                self.assertIs(is_cover(clause, 0, thing), empty or clause is ALONE and thing == ((0, 1),), thing)
                self.assertIs(is_cover(clause, 1, thing), clause is ALONE and thing == ((0, 1),), thing)
                self.assertIs(is_cover(clause, 1000, thing), False)

    def test_right_ones_spoiled_in_one_place(self):
        for clause in (ALONE, clause_of((1, 1)), clause_of((2, 1), (3, 1), (7, 1))):
            for days in (1, 3, 5):
                for right in [cover(clause, days), cover(clause, days) * 2, cover(clause, days) + ((days, 3),)]:
                    for thing in plain.spoiled(right, KINDS):
                        self.assertIs(is_cover(clause, days, thing), plain.is_cover(clause, days, thing), thing)

    def test_true_and_false_are_no_numbers(self):
        self.assertIs(is_cover(ALONE, 1, ((0, 1),)), True)
        for thing in [((False, 1),), ((0, True),), ((False, True),), ((0, 1), (True, 1))]:
            self.assertIs(is_cover(ALONE, 1, thing), False)


class Refusing(Case):

    def test_days(self):
        for clause in (ALONE, FREE):
            for days in WRONG_DAYS:
                for asked in ASKED:
                    self.refuses(BadNumber, days, asked, clause, days)

    def test_the_bounds(self):
        for asked in ASKED:
            asked(ALONE, 0)
            asked(ALONE, 1000)
            self.refuses(BadNumber, 1001, asked, ALONE, 1001)
            self.refuses(BadNumber, -1, asked, ALONE, -1)
        self.refuses(BadNumber, False, is_cover, thing=(), days=False, clause=ALONE)


if __name__ == "__main__":
    unittest.main()
