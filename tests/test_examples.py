"""The examples of the interface, to the letter, and those of the README."""

import doctest
import os
import unittest

HOUSES = """
    >>> from paidahead.houses import contents
    >>> put = ((("add", 0, 1), ("pay", 1)),)
    >>> read = ((("toll", 0, (0, 4, 6, 7, 7)), ("set", 0, 0)),)
    >>> log = ((5,), (0,), (put, read))
    >>> contents(log)
    ((0,), (1,), (2,), (3,), (4,))
"""

MOVES = """
    >>> from paidahead.moves import done, moves
    >>> put = ((("add", 0, 1), ("pay", 1)),)
    >>> read = ((("toll", 0, (0, 4, 6, 7, 7)), ("set", 0, 0)),)
    >>> log = ((5,), (0,), (put, read))
    >>> (done(log, (1,), (0, 0)), done(log, (4,), (0, 0)), moves(log, (4,)))
    (((2,), 1), None, (((1, 0), (0,), 7),))
"""

README = os.path.join(os.path.dirname(os.path.dirname(os.path.abspath(__file__))), "README.md")


class ExamplesTest(unittest.TestCase):
    def follow(self, text, name):
        test = doctest.DocTestParser().get_doctest(text, {}, name, None, None)
        told = []
        result = doctest.DocTestRunner(verbose=False).run(test, out=told.append)
        self.assertGreater(result.attempted, 0)
        self.assertEqual(result.failed, 0, "".join(told))

    def test_houses(self):
        self.follow(HOUSES, "houses")

    def test_moves(self):
        self.follow(MOVES, "moves")

    def test_readme(self):
        with open(README, encoding="utf-8") as file:
            self.follow(file.read(), "README.md")


if __name__ == "__main__":
    unittest.main()
