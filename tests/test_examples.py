import unittest

from whomaysign.books import Book
from whomaysign.clauses import Clause


class Examples(unittest.TestCase):
    """The document's examples, as far as their modules are written."""

    def test_three_signs(self):
        folk = ('ann', 'bob', 'cat')
        alone = Clause(folk, (folk,), 500, ((1, 500), (3, 1000)))
        both = Clause(folk, (('ann', 'bob'), ('ann', 'bob')))
        book = Book(folk, [alone, both])
        self.assertEqual((alone.people, alone.slots), (folk, (folk,)))
        self.assertEqual((alone.cap, alone.sums), (500, ((1, 500), (3, 1000))))
        self.assertEqual((both.cap, both.sums), (None, ()))
        self.assertEqual((len(book), book[0], book[1]), (2, alone, both))
        self.assertEqual((book.people, book.clauses, book.lent), (folk, (alone, both), ()))
        self.assertEqual(book.lending('bob', 'cat').lent, (('bob', 'cat'),))
        self.assertEqual(book.lending('bob', 'cat').clauses, (alone, both))


if __name__ == "__main__":
    unittest.main()
