import doctest
import unittest

from whomaysign.books import Book
from whomaysign.clauses import Clause
from whomaysign.covers import cover, least_cost, spread
from whomaysign.hands import filling, short, signs
from whomaysign.lots import bars, least_lots
from whomaysign.reach import at_once, gathers
from whomaysign.texts import clause_text

# The document's examples, as they stand in it.
EXAMPLES = """
>>> from whomaysign.books import Book
>>> from whomaysign.clauses import Clause
>>> from whomaysign.covers import cover, least_cost, spread
>>> from whomaysign.hands import filling, short, signs
>>> from whomaysign.lots import bars, least_lots
>>> from whomaysign.reach import at_once, gathers
>>> from whomaysign.texts import clause_text
>>> folk = ('ann', 'bob', 'cat')
>>> alone = Clause(folk, (folk,), 500, ((1, 500), (3, 1000)))
>>> both = Clause(folk, (('ann', 'bob'), ('ann', 'bob')))
>>> book = Book(folk, [alone, both])
>>> at_once(book, ('cat',)), at_once(book, ('ann', 'bob'))
(500, None)
>>> gathers(book, ('cat',), 7)
2500
>>> cover(alone, 3), sum(spread(alone, 3))
(((0, 3),), 1000)
>>> short(book, ('ann', 'cat'), 1)
(0, 1)
>>> signs(book.lending('bob', 'cat'), ('ann', 'cat'), 1)
True
>>> least_lots(book, ('once', 501))
(('ann', 'bob'),)
>>> bars(book, ('once', 501))
(('ann',), ('bob',))
>>> clause_text(alone)
'slots ann+bob+cat cap 500 sums 1:500 3:1000'
"""


class Examples(unittest.TestCase):
    """The document's examples, and what they tell beside."""

    def test_word_for_word(self):
        examples = doctest.DocTestParser().get_doctest(EXAMPLES, {}, "examples", None, 0)
        self.assertEqual(len(examples.examples), 19)
        told = []
        result = doctest.DocTestRunner(verbose=False).run(examples, out=told.append)
        self.assertEqual((result.failed, result.attempted), (0, 19), "".join(told))

    def test_three_signs(self):
        folk = ('ann', 'bob', 'cat')
        alone = Clause(folk, (folk,), 500, ((1, 500), (3, 1000)))
        both = Clause(folk, (('ann', 'bob'), ('ann', 'bob')))
        book = Book(folk, [alone, both])
        self.assertEqual((alone.people, alone.slots), (folk, (folk,)))
        self.assertEqual((alone.cap, alone.sums), (500, ((1, 500), (3, 1000))))
        self.assertEqual((both.cap, both.sums), (None, ()))
        self.assertEqual((len(book), book[0], book[1]), (2, alone, both))
        self.assertEqual((book.people, book.clauses, book.lent), (folk, (alone, both), ()))
        self.assertEqual(book.lending('bob', 'cat').lent, (('bob', 'cat'),))
        self.assertEqual(book.lending('bob', 'cat').clauses, (alone, both))

    def test_who_can_move_how_much(self):
        folk = ('ann', 'bob', 'cat')
        alone = Clause(folk, (folk,), 500, ((1, 500), (3, 1000)))
        both = Clause(folk, (('ann', 'bob'), ('ann', 'bob')))
        book = Book(folk, [alone, both])
        self.assertEqual((at_once(book, ('cat',)), at_once(book, ('ann', 'bob'))), (500, None))
        self.assertEqual(gathers(book, ('cat',), 7), 2500)
        self.assertEqual((cover(alone, 3), sum(spread(alone, 3))), (((0, 3),), 1000))
        self.assertEqual(least_cost(alone, 3), 1000)
        self.assertEqual(short(book, ('ann', 'cat'), 1), (0, 1))
        self.assertIs(filling(book, ('ann', 'cat'), 1), None)
        self.assertIs(signs(book.lending('bob', 'cat'), ('ann', 'cat'), 1), True)
        self.assertEqual(least_lots(book, ('once', 501)), (('ann', 'bob'),))
        self.assertEqual(bars(book, ('once', 501)), (('ann',), ('bob',)))
        self.assertEqual(clause_text(alone), 'slots ann+bob+cat cap 500 sums 1:500 3:1000')


if __name__ == "__main__":
    unittest.main()
