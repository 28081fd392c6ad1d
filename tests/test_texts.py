import itertools
import unittest

import plain
from samples import ALONE, BOOK, BOTH, FOLK, GREAT, SIX, STRANGE, WRONG_PEOPLE, Case
from whomaysign.books import Book
from whomaysign.clauses import Clause
from whomaysign.errors import BadPeople, BadText
from whomaysign.reach import gathers
from whomaysign.texts import book_text, clause_text, read_book, read_clause

NO_TEXTS = [value for value in STRANGE if not isinstance(value, str)] + [
    (), ("slots ann cap - sums",), ["slots ann cap - sums"], b"slots ann cap - sums", (("a",),), [[]]]
# People called like words of the texts, of one letter and of eight.
CALLED = ("cap", "lent", "people", "slots", "sums")
LETTERS = ("a", "abcdefgh", "z", "zzzzzzzz")
TOP = 10 ** 1000 - 1
BOOK_TEXT = "people ann bob cat\nslots ann+bob+cat cap 500 sums 1:500 3:1000\nslots ann+bob ann+bob cap - sums"


def clauses_of(people):
    """Clauses of all forms."""
    for slots in [((),), (people,), ((), people, (), people), (people[:1],), (people[-1:], ()), ((), ()),
                  tuple((person,) for person in people[:4]), (tuple(sorted({people[0], people[-1]})),) * 4]:
        for cap in (None, 1, 10, 500, 10 ** 999, TOP):
            for sums in [(), ((1, 1),), ((7, TOP),), ((1, 500), (3, 1000)), ((2, 10 ** 64 - 1), (3, 10 ** 64), (7, 9))]:
                yield Clause(people, slots, cap, sums)


def books():
    yield from (BOOK, Book(FOLK, [ALONE]), Book(FOLK, [ALONE] * 5))
    yield Book(FOLK, [BOTH], list(itertools.permutations(FOLK, 2)))
    for people in (CALLED, LETTERS, SIX):
        pairs = list(itertools.permutations(people, 2))
        some = list(clauses_of(people))[::23]
        for many in range(1, 6):
            yield Book(people, some[many:2 * many], pairs[:many])
        yield Book(people, some[:5], pairs)
    yield Book(("a",), [Clause(("a",), (("a",), ()))])
    yield from plain.some_books(71, 40, FOLK, 2000)
    yield from plain.some_books(72, 10, SIX, GREAT)
    yield from plain.some_books(73, 40, CALLED, 20)


class ClauseText(Case):

    def test_of_the_example(self):
        self.assertEqual(clause_text(ALONE), "slots ann+bob+cat cap 500 sums 1:500 3:1000")
        self.assertEqual(clause_text(BOTH), "slots ann+bob ann+bob cap - sums")
        self.assertEqual(clause_text(Clause(("ann", "bob"), (("ann", "bob"), ("bob",)), 500, ((1, 500), (7, 2000)))), (
            "slots ann+bob bob cap 500 sums 1:500 7:2000"))

    def test_nobody(self):
        self.assertEqual(clause_text(Clause(FOLK, ((),))), "slots - cap - sums")
        self.assertEqual(clause_text(Clause(FOLK, ((), ("cat",), ()), 1, ((4, 5),))), "slots - cat - cap 1 sums 4:5")

    def test_people_called_like_words(self):
        clause = Clause(CALLED, (("cap",), ("sums",), ("cap", "slots", "sums"), ()), 7, ((2, 9),))
        self.assertEqual(clause_text(clause), "slots cap sums cap+slots+sums - cap 7 sums 2:9")

    def test_many_figures(self):
        clause = Clause(FOLK, ((),), TOP, ((1, GREAT), (7, 10 ** 128 + 5)))
        self.assertEqual(clause_text(clause), (
            "slots - cap " + "9" * 1000 + " sums 1:1" + "0" * 999 + " 7:1" + "0" * 127 + "5"))
        for figures in range(1, 300):
            number = int(("1234567890" * 30)[:figures])
            self.assertEqual(clause_text(Clause(FOLK, ((),), number)), f"slots - cap {number} sums")
            self.assertEqual(clause_text(Clause(FOLK, ((),), 10 ** figures)), f"slots - cap 1{'0' * figures} sums")

    def test_what_is_told_however_great(self):
        book = Book(("a",), [Clause(("a",), (("a",),), None, ((1, TOP),))])
        total = gathers(book, ("a",), 1000)
        for _ in range(1200):
            total = gathers(Book(("a",), [Clause(("a",), (("a",),), None, ((1, total),))]), ("a",), 9) * 1000
        figures = clause_text(Clause(("a",), ((),), total))[len("slots - cap "):-len(" sums")]
        self.assertGreater(len(figures), 5000)
        self.assertTrue(figures.isdigit() and figures[0] != "0")
        rest = total
        for at in range(len(figures), 0, -1000):
            self.assertEqual(rest % 10 ** 1000, int(figures[max(0, at - 1000):at]))
            rest //= 10 ** 1000
        self.assertEqual(rest, 0)

    def test_by_name(self):
        self.assertEqual(clause_text(clause=BOTH), "slots ann+bob ann+bob cap - sums")


class ReadClause(Case):

    def test_of_the_example(self):
        self.assertEqual(read_clause(FOLK, "slots ann+bob+cat cap 500 sums 1:500 3:1000"), ALONE)
        self.assertEqual(read_clause(FOLK, "slots ann+bob ann+bob cap - sums"), BOTH)

    def test_what_clause_text_gives(self):
        for people in (FOLK, CALLED, LETTERS, SIX, ("a",)):
            for clause in clauses_of(people):
                text = clause_text(clause)
                self.assertEqual(text.count("\n"), 0)
                read = read_clause(people, text)
                self.assertIs(type(read), Clause)
                self.assertEqual(read, clause)
                self.assertEqual(plain.read_clause(people, text), clause)

    def test_random_ones(self):
        for book in books():
            for clause in book.clauses:
                self.assertEqual(read_clause(book.people, clause_text(clause)), clause)

    def test_near_ones(self):
        read = refused = 0
        for people, text in [
                (FOLK, clause_text(ALONE)), (FOLK, clause_text(BOTH)), (FOLK, "slots - ann cap 10 sums 2:11 3:12 7:13"),
                (CALLED, "slots cap sums cap+slots+sums - cap 7 sums 2:9"), (CALLED, "slots cap cap cap - sums"),
                (CALLED, "slots cap - cap 1 sums"), (CALLED, "slots sums cap - sums"),
                (CALLED, "slots cap - sums cap - sums 1:5"), (("a", "b"), "slots a+b b cap 1 sums 6:1"),
                (LETTERS, "slots abcdefgh+z a zzzzzzzz cap 90 sums 1:2")]:
            self.assertEqual(clause_text(read_clause(people, text)), text)
            for near in set(plain.near_texts(text, " -+:019a\n\t.,_\u0665\u00b2")):
                clause = plain.read_clause(people, near)
                if clause is None:
                    refused += 1
                    self.refuses(BadText, 1, read_clause, people, near)
                else:
                    read += 1
                    self.assertEqual(read_clause(people, near), clause)
                    self.assertEqual(clause_text(read_clause(people, near)), near)
        self.assertGreater(read, 100)
        self.assertGreater(refused, 5000)

    def test_figures(self):
        for form in ("slots ann cap {} sums", "slots ann cap - sums 1:{}", "slots - cap - sums 2:5 3:{} 7:8"):
            for number in ("1", "9", "10", "5" * 999, "9" * 1000, "1" + "0" * 999):
                text = form.format(number)
                self.assertEqual(clause_text(read_clause(FOLK, text)), text)
            for number in (
                    "0", "00", "01", "-1", "+1", "-0", "1.0", "1e3", "1_000", "0x1", " 1", "1 ", "", "--", "a", "ann",
                    "1" + "0" * 1000, "9" * 1001, "0" + "1" * 999, "9" * 4299, "9" * 5000, "1" * 15000,
                    "\u0661", "\u00b9", "1\n", "\n1", "None", "True", "1:", ":1", "1:1"):
                self.refuses(BadText, 1, read_clause, FOLK, form.format(number))

    def test_signs_that_are_no_figures(self):
        for sign in [chr(number) for number in range(300) if chr(number) not in "0123456789"]:
            for number in (sign, "1" + sign, sign + "1", "1" + sign + "1"):
                if number != "-":
                    self.refuses(BadText, 1, read_clause, FOLK, f"slots ann cap {number} sums")
                self.refuses(BadText, 1, read_clause, FOLK, f"slots ann cap - sums 1:{number}")
                self.refuses(BadText, 1, read_clause, FOLK, f"slots ann cap - sums {number}:1")

    def test_days(self):
        for days in ("0", "8", "9", "10", "01", "1" * 1000, "-1", "+1", "a", "", "ann", "1.", "-"):
            self.refuses(BadText, 1, read_clause, FOLK, f"slots ann cap - sums {days}:5")
        for sums in ("2:5 1:5", "1:5 1:6", "1:5 3:5 2:5", "1:1 2:2 3:3 4:4", "1:5:6", "1::5", "15", "1:5  2:6", "-",
                     "1:-", "1=5", "1: 5", "1:5,2:6"):
            self.refuses(BadText, 1, read_clause, FOLK, f"slots ann cap - sums {sums}")
        for days in "1234567":
            self.assertEqual(read_clause(FOLK, f"slots ann cap - sums {days}:5").sums, ((int(days), 5),))

    def test_slots(self):
        for slots in ("", "dan", "bob+ann", "ann+ann", "ann+", "+ann", "ann++bob", "+", "Ann", "ann+-", "-+ann", "--",
                      "ann+dan", "ann,bob", "ann  bob", "- - - - -", "ann ann ann ann ann", "an", "anna", "0", "()"):
            self.refuses(BadText, 1, read_clause, FOLK, f"slots {slots} cap 5 sums 1:2")
        for many in range(1, 5):
            self.assertEqual(read_clause(FOLK, "slots" + " -" * many + " cap 5 sums").slots, ((),) * many)

    def test_parts(self):
        for text in [
                "", " ", "\n", "slots", "cap", "sums", "slots cap sums", "slots ann cap sums", "slots cap - sums",
                "slots ann", "slots ann cap", "slots ann cap 5", "slots ann sums", "slots ann sums 1:5",
                "ann cap 5 sums",
                "slot ann cap 5 sums", "slots ann cap 5 sum", "slots ann caps 5 sums", "Slots ann cap 5 sums",
                "slots ann cap 5 sums ", " slots ann cap 5 sums", "slots ann cap 5 sums\n", "\nslots ann cap 5 sums",
                "slots  ann cap 5 sums", "slots ann  cap 5 sums", "slots ann cap  5 sums", "slots ann cap 5  sums",
                "slots ann cap 5 sums  1:5", "slots ann cap 5 sums 1:5 ", "slots ann cap 5 5 sums",
                "slots ann cap - - sums",
                "slots ann cap cap 5 sums", "slots ann cap 5 sums sums", "slots ann cap 5 sums 1:5 sums",
                "slots ann cap 5 sums cap 5 sums", "sums 1:5 cap 5 slots ann", "slots ann sums 1:5 cap 5",
                "cap 5 slots ann sums 1:5", "slots\tann\tcap\t5\tsums", "slots ann\ncap 5 sums", "slotsanncap5sums",
                "slots sums cap", "slots cap", "sums cap slots", "cap sums", "slots sums", "5 sums", "cap 5 sums",
                "slots ann cap 5 sums" * 2, "slots ann cap 5 sums\nslots ann cap 5 sums", "people ann bob cat",
                "lent ann bob", "slots " * 3000, "sums " * 4000, " " * 20000, "\n" * 20000, "a" * 20000, "-" * 20000]:
            self.refuses(BadText, 1, read_clause, FOLK, text)

    def test_no_text(self):
        for text in NO_TEXTS:
            self.refuses(BadText, None, read_clause, FOLK, text)

    def test_people(self):
        for people in WRONG_PEOPLE:
            self.refuses(BadPeople, people, read_clause, people, "slots - cap - sums")
        # People are refused ahead of texts.
        self.refuses(BadPeople, (), read_clause, (), None)
        self.refuses(BadPeople, ["ann"], read_clause, text="", people=["ann"])
        self.refuses(BadText, None, read_clause, ("ann",), None)

    def test_by_name(self):
        self.assertEqual(read_clause(text="slots ann+bob ann+bob cap - sums", people=FOLK), BOTH)


class BookText(Case):

    def test_of_the_example(self):
        self.assertEqual(book_text(BOOK), BOOK_TEXT)

    def test_lent(self):
        book = BOOK.lending("cat", "bob").lending("ann", "cat").lending("ann", "bob")
        self.assertEqual(book_text(book), BOOK_TEXT + "\nlent ann bob\nlent ann cat\nlent cat bob")

    def test_one_person(self):
        self.assertEqual(book_text(Book(("a",), [Clause(("a",), ((),))])), "people a\nslots - cap - sums")

    def test_lines(self):
        for book in books():
            lines = book_text(book).split("\n")
            self.assertEqual(lines[0], "people " + " ".join(book.people))
            self.assertEqual(lines[1:1 + len(book)], [clause_text(clause) for clause in book.clauses])
            self.assertEqual(lines[1 + len(book):], [f"lent {one} {other}" for one, other in book.lent])

    def test_by_name(self):
        self.assertEqual(book_text(book=BOOK), BOOK_TEXT)


class ReadBook(Case):

    def test_of_the_example(self):
        self.assertEqual(read_book(BOOK_TEXT), BOOK)
        self.assertEqual(read_book(text=BOOK_TEXT + "\nlent bob cat"), BOOK.lending("bob", "cat"))

    def test_what_book_text_gives(self):
        for book in books():
            text = book_text(book)
            read = read_book(text)
            self.assertIs(type(read), Book)
            self.assertEqual(read, book)
            self.assertEqual(plain.read_book(text), book)

    def judge(self, text):
        """Reads a text as a plain reader does."""
        told = plain.read_book(text)
        if isinstance(told, int):
            self.refuses(BadText, told, read_book, text)
            return told
        self.assertEqual(read_book(text), told)
        self.assertEqual(book_text(told), text)
        return None

    def test_near_ones(self):
        told = []
        for text in [
                BOOK_TEXT, BOOK_TEXT + "\nlent ann bob\nlent ann cat\nlent cat ann",
                "people a\nslots a cap 1 sums", "people a b\nslots a+b - cap 1 sums 1:1 2:2\nlent a b\nlent b a",
                "people cap lent people slots sums\nslots cap lent+slots cap 9 sums\nlent cap lent\nlent lent people",
                "people a b" + "\nslots - cap - sums" * 5 + "\nlent a b"]:
            self.assertIsNone(self.judge(text))
            told += [self.judge(near) for near in set(plain.near_texts(text, " -+:01ab\n"))]
        for line in (None, 1, 2, 3, 4, 5, 6, 7):
            self.assertGreater(told.count(line), 30, line)

    def test_the_first_wrong_line(self):
        lines = (BOOK_TEXT + "\nlent ann bob\nlent bob cat\nlent cat ann").split("\n")
        for wrong in ["", " ", "people cat bob ann", "slots", "lent", "lent ann ann", "lent ann dan", "-", "x" * 99]:
            for at in range(6):
                self.refuses(BadText, at + 1, read_book, "\n".join(lines[:at] + [wrong] + lines[at + 1:]))
                for other in range(at, 6):
                    spoiled = lines[:at] + [wrong] + lines[at + 1:]
                    spoiled[other] = ""
                    self.refuses(BadText, at + 1, read_book, "\n".join(spoiled))

    def test_people_line(self):
        for line in ["", "people", "people ", "people  ann", "people ann ", " people ann", "people bob ann",
                     "people ann ann", "people Ann", "people ann+bob", "people abcdefghi", "person ann", "ann bob cat",
                     "people a b c d e f g", "People ann", "people\tann", "people -", "people 1", "peopleann",
                     "slots ann",
                     "people,ann"]:
            self.refuses(BadText, 1, read_book, line)
            self.refuses(BadText, 1, read_book, line + "\nslots - cap - sums")
            self.refuses(BadText, 1, read_book, line + "\n")
        for people in (("a",), SIX, CALLED, LETTERS, ("people",), ("ann", "people")):
            self.assertEqual(read_book("people " + " ".join(people) + "\nslots - cap - sums").people, people)

    def test_one_line(self):
        for people in ("a", "ann bob cat", "people", "a b c d e f"):
            self.refuses(BadText, 2, read_book, "people " + people)
        self.refuses(BadText, 1, read_book, "slots - cap - sums")
        self.refuses(BadText, 1, read_book, "lent ann bob")
        self.refuses(BadText, 1, read_book, "")

    def test_empty_lines(self):
        lines = (BOOK_TEXT + "\nlent ann bob").split("\n")
        for at in range(5):
            self.refuses(BadText, at + 1, read_book, "\n".join(lines[:at] + [""] + lines[at:]))
        self.refuses(BadText, 2, read_book, "people ann\n")
        self.refuses(BadText, 2, read_book, "people ann\n\n")
        self.refuses(BadText, 1, read_book, "\n")

    def test_clause_lines(self):
        for many in range(1, 9):
            text = "people a b" + "\nslots a cap - sums" * many
            if many <= 5:
                self.assertEqual(len(read_book(text)), many)
            else:
                self.refuses(BadText, 7, read_book, text)
        # A lent line may stand behind five of them.
        self.assertEqual(read_book("people a b" + "\nslots a cap - sums" * 5 + "\nlent a b").lent, (("a", "b"),))

    def test_a_clause_line_behind_a_lent_line(self):
        clause, lent = "\nslots a cap - sums", "\nlent a b"
        self.refuses(BadText, 4, read_book, "people a b" + clause + lent + clause)
        self.refuses(BadText, 5, read_book, "people a b" + clause + clause + lent + clause + clause)
        self.refuses(BadText, 5, read_book, "people a b" + clause + lent + "\nlent b a" + clause)

    def test_lent_lines(self):
        start = "people a b c\nslots a cap - sums"
        self.refuses(BadText, 2, read_book, "people a b c\nlent a b")
        self.refuses(BadText, 2, read_book, "people a b c\nlent a b\nslots a cap - sums")
        for order in itertools.permutations(["a b", "a c", "b a"]):
            text = start + "".join("\nlent " + pair for pair in order)
            falls = [at for at in (1, 2) if order[at] <= order[at - 1]]
            if falls:
                self.refuses(BadText, 3 + falls[0], read_book, text)
            else:
                self.assertEqual(read_book(text).lent, (("a", "b"), ("a", "c"), ("b", "a")))
        self.refuses(BadText, 4, read_book, start + "\nlent a b\nlent a b")
        self.refuses(BadText, 5, read_book, start + "\nlent a b\nlent b c\nlent a b")
        for line in ["lent a", "lent a a", "lent a d", "lent d a", "lent a b c", "lent  a b", "lent a  b", "lent a b ",
                     " lent a b", "lent", "lent ", "lent a+b", "Lent a b", "lend a b", "lent a\tb", "lent - a",
                     "lentab"]:
            self.refuses(BadText, 3, read_book, start + "\n" + line)
            self.refuses(BadText, 4, read_book, start + "\nlent a b\n" + line)

    def test_a_line_feed_at_the_end(self):
        for book in books():
            text = book_text(book)
            self.refuses(BadText, len(text.split("\n")) + 1, read_book, text + "\n")
            self.refuses(BadText, 1, read_book, "\n" + text)

    def test_other_ends_of_lines(self):
        for end in ("\r\n", "\r", "\x0b", "\x0c", "\x1c", "\x85", "\u2028", " \n", "\n ", "\t\n"):
            text = BOOK_TEXT.replace("\n", end)
            self.assertIsInstance(plain.read_book(text), int)
            self.judge(text)

    def test_many_figures(self):
        text = "people a\nslots a cap {} sums 1:{} 7:{}"
        for figures in (1, 999, 1000):
            number = "7" * figures
            whole = text.format(number, number, number)
            self.assertEqual(book_text(read_book(whole)), whole)
        for places in [("7" * 1001, "7", "7"), ("7", "7" * 1001, "7"), ("7", "7", "7" * 1001)]:
            self.refuses(BadText, 2, read_book, text.format(*places))
            self.refuses(BadText, 3, read_book, text.format(1, 1, 1) + text.format(*places)[len("people a"):])

    def test_no_text(self):
        for text in NO_TEXTS:
            self.refuses(BadText, None, read_book, text)
        for text in STRANGE:
            if isinstance(text, str):
                self.refuses(BadText, 1, read_book, text)


if __name__ == "__main__":
    unittest.main()
