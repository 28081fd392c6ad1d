import itertools
import unittest

from samples import FOLK, SIX, WRONG_LOTS, WRONG_PEOPLE, WRONG_WORDS, Case
from whomaysign.errors import BadPeople
from whomaysign.people import all_lots, is_lot, need_people

RIGHT_PEOPLE = [
    ("a",), ("z",), ("abcdefgh",), ("zzzzzzzz",), ("a", "z"), ("a", "aa"), ("ann",), FOLK, SIX,
    ("a", "aa", "aaa", "aaaaaaaa", "ab", "b"), ("t", "u", "v", "w", "x", "y"),
]


def lots_of(people):
    """All lots of people, found as Python's own combinations."""
    many = range(len(people) + 1)
    return sorted(lot for size in many for lot in itertools.combinations(people, size))


class NeedPeople(Case):

    def test_gives_itself(self):
        for people in RIGHT_PEOPLE:
            self.assertIs(need_people(people), people)

    def test_each_letter_is_right(self):
        for letter in "abcdefghijklmnopqrstuvwxyz":
            self.assertEqual(need_people((letter,)), (letter,))
            self.assertEqual(need_people((letter * 8,)), (letter * 8,))

    def test_each_other_character_is_wrong(self):
        for code in range(256):
            word = chr(code)
            if not "a" <= word <= "z":
                self.refuses(BadPeople, (word,), need_people, (word,))
                self.refuses(BadPeople, ("ab" + word,), need_people, ("ab" + word,))

    def test_wrong(self):
        for people in WRONG_PEOPLE:
            self.refuses(BadPeople, people, need_people, people)

    def test_wrong_tells_the_very_value(self):
        people = ["ann"]
        with self.assertRaises(BadPeople) as caught:
            need_people(people)
        self.assertIs(caught.exception.value, people)
        self.assertEqual(people, ["ann"])

    def test_each_wrong_order(self):
        for people in itertools.product(FOLK, repeat=3):
            if people != FOLK:
                self.refuses(BadPeople, people, need_people, people)

    def test_by_name(self):
        self.assertIs(need_people(thing=FOLK), FOLK)
        self.refuses(BadPeople, (), need_people, thing=())


class IsLot(Case):

    def test_all_lots_are(self):
        for people in RIGHT_PEOPLE:
            for lot in lots_of(people):
                self.assertIs(is_lot(people, lot), True)

    def test_wrong(self):
        for thing in WRONG_LOTS:
            self.assertIs(is_lot(FOLK, thing), False, thing)

    def test_every_tuple_of_three(self):
        names = FOLK + ("dan",)
        right = lots_of(FOLK)
        for many in range(4):
            for thing in itertools.product(names, repeat=many):
                self.assertIs(is_lot(FOLK, thing), thing in right, thing)

    def test_only_of_these_people(self):
        self.assertIs(is_lot(("ann",), ("bob",)), False)
        self.assertIs(is_lot(("ann",), ("ann",)), True)
        self.assertIs(is_lot(("ann",), ("ann", "bob")), False)
        self.assertIs(is_lot(("ann",), ()), True)
        for word in WRONG_WORDS:
            self.assertIs(is_lot(("ann",), (word,)), False)

    def test_by_name(self):
        self.assertIs(is_lot(thing=("bob",), people=FOLK), True)
        self.assertIs(is_lot(thing=("dan",), people=FOLK), False)


class AllLots(Case):

    def test_of_three(self):
        self.assertEqual(all_lots(FOLK), (
            (), ("ann",), ("ann", "bob"), ("ann", "bob", "cat"), ("ann", "cat"), ("bob",), ("bob", "cat"), ("cat",)))

    def test_of_one(self):
        self.assertEqual(all_lots(("ann",)), ((), ("ann",)))

    def test_every_lot_once_and_ascending(self):
        for people in RIGHT_PEOPLE:
            lots = all_lots(people)
            self.assertIs(type(lots), tuple)
            self.assertEqual(list(lots), lots_of(people))
            self.assertEqual(len(lots), 2 ** len(people))

    def test_wrong(self):
        for people in WRONG_PEOPLE:
            self.refuses(BadPeople, people, all_lots, people)

    def test_by_name(self):
        self.assertEqual(all_lots(people=("ann",)), ((), ("ann",)))


if __name__ == "__main__":
    unittest.main()
