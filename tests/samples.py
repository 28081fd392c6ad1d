"""Values that the tests share, and a test case that knows the errors' fields."""

import unittest

from whomaysign import errors
from whomaysign.books import Book
from whomaysign.clauses import Clause

FOLK = ("ann", "bob", "cat")
SIX = ("ann", "bob", "cat", "dan", "eve", "fay")
GREAT = 10 ** 999

ALONE = Clause(FOLK, (FOLK,), 500, ((1, 500), (3, 1000)))
BOTH = Clause(FOLK, (("ann", "bob"), ("ann", "bob")))
BOOK = Book(FOLK, [ALONE, BOTH])

FIELDS = {
    errors.BadPeople: "value",
    errors.BadLot: "value",
    errors.BadClause: "place",
    errors.BadBook: "place",
    errors.BadRow: "value",
    errors.BadWish: "value",
    errors.BadNumber: "value",
    errors.BadPaper: "place",
    errors.BadText: "line",
    errors.TooMany: "most",
}

# None of these is people, a lot, slots, clauses or a text that names anything here.
STRANGE = [
    None, True, False, 0, 1, -1, GREAT, -GREAT,
    "", "a", "ann", "bob ann", "ann\n", b"", b"ann",
    [], ["ann"], [[]], {}, {"ann": "bob"}, set(), {"ann"}, frozenset(),
    range(1), len, int, Clause, object(), iter(()), ALONE, BOOK,
]

WRONG_WORDS = [
    word for word in STRANGE if word not in ("a", "ann")
] + [
    "Ann", "ANN", "an n", " ann", "ann ", "ann1", "a-b", "a.b", "`", "{", "@", "[", "0", "\n",
    "abcdefghi", "a" * 20000, (), ("ann",), (("ann",),),
]

WRONG_PEOPLE = STRANGE + [
    (), [], ["ann"], ["ann", "bob"], list(SIX),
    ("bob", "ann"), ("ann", "ann"), ("ann", "cat", "bob"), ("ann", "bob", "ann"), ("ann", "bob", "bob"),
    SIX + ("gil",), ("ann",) * 20000, tuple(reversed(SIX)), ((),), (("ann", "bob"),), (SIX, SIX),
] + [(word,) for word in WRONG_WORDS] + [("a", word, "z") for word in WRONG_WORDS]

NO_PERSON = [person for person in STRANGE if person != "ann"] + [
    "dan", "an", "anna", "Ann", "ann ", (), ("ann",), (("ann",),), FOLK,
]

WRONG_LOTS = STRANGE + [
    [], ["ann"], ["ann", "bob"], list(FOLK), {"ann": True},
    ("bob", "ann"), ("ann", "ann"), ("ann", "cat", "bob"), ("ann", "bob", "ann"), ("ann", "bob", "bob"),
    ("ann",) * 20000, SIX, ((),), ((), ()),
] + [(person,) for person in NO_PERSON] + [("ann", person) for person in NO_PERSON]

WRONG_SLOTS = STRANGE + [
    (), [], [("ann",)], [FOLK, FOLK], FOLK, ("ann",), ((),) * 5, (FOLK,) * 5, (FOLK,) * 5000, ((FOLK,),),
] + [(lot,) for lot in WRONG_LOTS] + [((), FOLK, lot) for lot in WRONG_LOTS]

WRONG_CAPS = [cap for cap in STRANGE if cap is not None and (cap is True or cap not in (1, GREAT))] + [
    "1", b"1", (), (1,), [1], ((),), -2,
]

WRONG_DAYS = [days for days in STRANGE if days is True or days != 1] + [8, 100, "1", (), (1,), [1], ((1,),)]

WRONG_COSTS = WRONG_CAPS + [None]

WRONG_SUMS = STRANGE + [
    [], [(1, 5)], [[1, 5]], (1, 5), (5,), ((),), (((),),), ([1, 5],), ((1, 5), [2, 5]), ((1,),), ((1, 5, 6),),
    (((1, 5),),), ((2, 5), (1, 5)), ((1, 5), (1, 5)), ((1, 5), (1, 6)), ((1, 5), (3, 6), (2, 7)),
    ((1, 5), (2, 6), (2, 7)), ((1, 1), (2, 2), (3, 3), (4, 4)), ((1, 5),) * 5000, "1:5", ("15",), (b"15",),
    ({1: 5},), ((1, 5), None), ((1, 5), ()),
] + [((days, 5),) for days in WRONG_DAYS] + [((1, 5), (days, 5)) for days in WRONG_DAYS] + [
    ((1, cost),) for cost in WRONG_COSTS] + [((1, 5), (2, 5), (3, cost)) for cost in WRONG_COSTS]

WRONG_PAIRS = STRANGE + [
    (), ("ann",), ("ann", "bob", "cat"), ["ann", "bob"], ("ann", "ann"), (("ann", "bob"),), ("ann", ("bob",)),
] + [("ann", person) for person in NO_PERSON] + [(person, "ann") for person in NO_PERSON]

WRONG_LENT = [lent for lent in STRANGE if lent != []] + [
    ("ann", "bob"), ["ann", "bob"], {("ann", "bob"): True}, {("ann", "bob")}, ((),), ((("ann", "bob"),),),
    (("ann", "bob"), ("ann", "bob")), [("ann", "bob"), ("bob", "ann"), ("ann", "bob")], (("ann", "bob"),) * 5000,
] + [(pair,) for pair in WRONG_PAIRS] + [[("ann", "bob"), pair] for pair in WRONG_PAIRS]


def wrong_numbers(many):
    """Values that are no number of a clause, if there are so many."""
    numbers = [thing for thing in STRANGE if thing is True or thing is False or thing not in range(many)]
    return numbers + [many, many + 1, -1, -many, "0", b"0", (), (0,), [0], ((0,),), slice(0, 1), slice(None)]


# Values of every kind to be judged, none of which is a row, a cover, a filling or a short but ().
DEEP = ()
for _ in range(49):
    DEEP = (DEEP,)
THINGS = STRANGE + WRONG_LOTS + [
    (), DEEP, (DEEP,) * 3, [()], ((), ()), ([],), ({},), (None,), (True,), (False,), (0.5,), ("",), (b"",),
    (0,) * 20000,
    ((0, 1),), ((0, 0, 1),), [(0, 0, 1)], ((0, 0, True),), ([0, 0, 1],), (0, 0, 1), ("0", "0", "1"), slice(0, 1),
    "sum", ("sum",), ("free",), ("sum", 0), ("free", 0), ("signed", (), ()), ("short", (0,)), ("once", 1),
]

# Of these each stands for its kind where every place of a nested value is tried.
KINDS = [None, True, False, -1, 0, 1, GREAT, "", "ann", b"ann", (), [], {}, {"ann"}, (None,), ALONE, BOOK]


class Case(unittest.TestCase):
    """A test case that tells which error is raised, and with which field."""

    def refuses(self, error, field, function, /, *given, **named):
        """Checks that a call raises this very error, and that its field is this value."""
        with self.assertRaises(error) as caught:
            function(*given, **named)
        self.assertIs(type(caught.exception), error)
        self.assertEqual(list(vars(caught.exception)), [FIELDS[error]])
        told = getattr(caught.exception, FIELDS[error])
        # True is equal to 1, but not the value that was passed.
        self.assertIs(type(told), type(field))
        self.assertTrue(told is field or told == field, (told, field))
