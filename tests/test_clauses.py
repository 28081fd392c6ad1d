import unittest

from samples import (ALONE, BOOK, FOLK, GREAT, SIX, STRANGE, WRONG_CAPS, WRONG_PEOPLE, WRONG_SLOTS, WRONG_SUMS, Case)
from whomaysign.clauses import Clause
from whomaysign.errors import BadClause, BadNumber, BadPeople
from whomaysign.people import all_lots

RIGHT_SLOTS = [((),), ((), (), (), ()), (FOLK,), (FOLK,) * 4, (("cat",), ("ann",)), ((), ("ann", "cat"), ())] + [
    (lot,) for lot in all_lots(FOLK)]
RIGHT_CAPS = [None, 1, 2, 500, GREAT, 10 ** 1000 - 1]
RIGHT_SUMS = [
    (), ((1, 1),), ((7, 1),), ((7, GREAT),), ((1, 500), (3, 1000)), ((5, 9), (6, 9), (7, 9)), ((1, 9), (2, 5), (7, 1)),
] + [((days, 3),) for days in range(1, 8)]


def fields(clause):
    return clause.people, clause.slots, clause.cap, clause.sums


class Making(Case):

    def test_fields(self):
        for slots in RIGHT_SLOTS:
            for cap in RIGHT_CAPS:
                for sums in RIGHT_SUMS:
                    clause = Clause(FOLK, slots, cap, sums)
                    self.assertEqual(fields(clause), (FOLK, slots, cap, sums))

    def test_fields_are_of_the_right_kinds(self):
        clause = Clause(FOLK, (FOLK, ()), 5, ((1, 2),))
        self.assertEqual([type(field) for field in fields(clause)], [tuple, tuple, int, tuple])
        self.assertEqual(set(vars(clause)), {"people", "slots", "cap", "sums"})

    def test_without_cap_and_sums(self):
        self.assertEqual(fields(Clause(FOLK, ((),))), (FOLK, ((),), None, ()))

    def test_one_person_and_six(self):
        self.assertEqual(Clause(("z",), (("z",), ())).slots, (("z",), ()))
        self.assertEqual(Clause(SIX, (SIX,) * 4).slots, (SIX,) * 4)

    def test_by_name_in_any_order(self):
        clause = Clause(sums=((1, 2),), cap=3, slots=(("ann",),), people=FOLK)
        self.assertEqual(fields(clause), (FOLK, (("ann",),), 3, ((1, 2),)))
        self.assertEqual(fields(Clause(FOLK, sums=((1, 2),), slots=((),))), (FOLK, ((),), None, ((1, 2),)))


class Refusing(Case):

    def test_people(self):
        for people in WRONG_PEOPLE:
            self.refuses(BadPeople, people, Clause, people, (("ann",),))

    def test_slots(self):
        for slots in WRONG_SLOTS:
            self.refuses(BadClause, "slots", Clause, FOLK, slots)

    def test_slots_of_other_people(self):
        self.refuses(BadClause, "slots", Clause, ("ann",), (("bob",),))
        self.refuses(BadClause, "slots", Clause, FOLK, (FOLK, SIX))

    def test_cap(self):
        for cap in WRONG_CAPS:
            self.refuses(BadClause, "cap", Clause, FOLK, (FOLK,), cap)

    def test_sums(self):
        for sums in WRONG_SUMS:
            self.refuses(BadClause, "sums", Clause, FOLK, (FOLK,), None, sums)

    def test_first_one_listed(self):
        self.refuses(BadPeople, (), Clause, (), (), 0, None)
        self.refuses(BadPeople, (), Clause, (), (("ann",),), 0, None)
        self.refuses(BadClause, "slots", Clause, FOLK, (), 0, None)
        self.refuses(BadClause, "slots", Clause, FOLK, (), None, None)
        self.refuses(BadClause, "cap", Clause, FOLK, (FOLK,), 0, None)
        self.refuses(BadClause, "sums", Clause, FOLK, (FOLK,), 1, None)
        self.refuses(BadClause, "slots", Clause, sums=None, cap=0, slots=(), people=FOLK)


class Equality(Case):

    def test_equal(self):
        for slots in RIGHT_SLOTS:
            one = Clause(FOLK, slots, 5, ((1, 2), (3, 4)))
            other = Clause(tuple(list(FOLK)), tuple(list(slots)), 5, ((1, 2), (3, 4)))
            self.assertIs(one == other, True)
            self.assertIs(one != other, False)
            self.assertIs(one == one, True)

    def test_each_field_counts(self):
        one = Clause(FOLK, (("ann",),), 5, ((1, 2),))
        for other in [
                Clause(SIX, (("ann",),), 5, ((1, 2),)), Clause(FOLK, (("bob",),), 5, ((1, 2),)),
                Clause(FOLK, (("ann",), ("ann",)), 5, ((1, 2),)), Clause(FOLK, (("ann",),), 6, ((1, 2),)),
                Clause(FOLK, (("ann",),), None, ((1, 2),)), Clause(FOLK, (("ann",),), 5, ((1, 3),)),
                Clause(FOLK, (("ann",),), 5, ((2, 2),)), Clause(FOLK, (("ann",),), 5)]:
            self.assertIs(one == other, False)
            self.assertIs(one != other, True)
            self.assertIs(other == one, False)

    def test_the_order_of_slots_counts(self):
        self.assertIs(Clause(FOLK, (("ann",), ("bob",))) == Clause(FOLK, (("bob",), ("ann",))), False)

    def test_other_values(self):
        for value in STRANGE:
            if value is not ALONE:
                self.assertIs(ALONE == value, False)
                self.assertIs(value == ALONE, False)
                self.assertIs(ALONE != value, True)
                self.assertIs(value != ALONE, True)
        self.assertIs(ALONE == fields(ALONE), False)


class Changing(Case):

    def test_each_field(self):
        for slots in RIGHT_SLOTS:
            self.assertEqual(fields(ALONE.changed("slots", slots)), (FOLK, slots, 500, ((1, 500), (3, 1000))))
        for cap in RIGHT_CAPS:
            self.assertEqual(fields(ALONE.changed("cap", cap)), (FOLK, (FOLK,), cap, ((1, 500), (3, 1000))))
        for sums in RIGHT_SUMS:
            self.assertEqual(fields(ALONE.changed("sums", sums)), (FOLK, (FOLK,), 500, sums))

    def test_gives_a_clause_and_keeps_this_one(self):
        changed = ALONE.changed("cap", 7)
        self.assertIs(type(changed), Clause)
        self.assertEqual(fields(ALONE), (FOLK, (FOLK,), 500, ((1, 500), (3, 1000))))
        self.assertEqual(changed.changed("cap", 500), ALONE)
        self.assertEqual(ALONE.changed("slots", (FOLK,)), ALONE)

    def test_wrong_field(self):
        for field in STRANGE + [
                "people", "Slots", "slot", "cap ", "capsums", "c", b"cap", ("cap",), ["cap"], (), {"cap": 1}, 2]:
            self.refuses(BadNumber, field, ALONE.changed, field, 1)
            self.refuses(BadNumber, field, ALONE.changed, field, None)

    def test_wrong_value(self):
        for slots in WRONG_SLOTS:
            self.refuses(BadClause, "slots", ALONE.changed, "slots", slots)
        for cap in WRONG_CAPS:
            self.refuses(BadClause, "cap", ALONE.changed, "cap", cap)
        for sums in WRONG_SUMS:
            self.refuses(BadClause, "sums", ALONE.changed, "sums", sums)

    def test_by_name(self):
        self.assertEqual(ALONE.changed(value=None, field="cap").cap, None)
        self.refuses(BadNumber, "folk", ALONE.changed, value=BOOK, field="folk")
        self.refuses(BadClause, "cap", ALONE.changed, value=True, field="cap")


if __name__ == "__main__":
    unittest.main()
