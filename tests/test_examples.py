"""The examples of the interface, to the letter, and those of the README."""

import doctest
import os
import unittest

HOUSES = """
    >>> from paidahead.houses import contents
    >>> put = ((("add", 0, 1), ("pay", 1)),)
    >>> read = ((("toll", 0, (0, 4, 6, 7, 7)), ("set", 0, 0)),)
    >>> log = ((5,), (0,), (put, read))
    >>> contents(log)
    ((0,), (1,), (2,), (3,), (4,))
"""

MOVES = """
    >>> from paidahead.moves import done, moves
    >>> put = ((("add", 0, 1), ("pay", 1)),)
    >>> read = ((("toll", 0, (0, 4, 6, 7, 7)), ("set", 0, 0)),)
    >>> log = ((5,), (0,), (put, read))
    >>> (done(log, (1,), (0, 0)), done(log, (4,), (0, 0)), moves(log, (4,)))
    (((2,), 1), None, (((1, 0), (0,), 7),))
"""

HISTORIES = """
    >>> from paidahead.histories import road_to, walked
    >>> put = ((("add", 0, 1), ("pay", 1)),)
    >>> read = ((("toll", 0, (0, 4, 6, 7, 7)), ("set", 0, 0)),)
    >>> log = ((5,), (0,), (put, read))
    >>> (walked(log, (0,), ((0, 0), (0, 0), (1, 0))), road_to(log, (2,)))
    (((0,), (2, 1), 8), ((0, 0), (0, 0)))
"""

RINGS = """
    >>> from paidahead.rings import is_ring, turned
    >>> put = ((("add", 0, 1), ("pay", 1)),)
    >>> read = ((("toll", 0, (0, 4, 6, 7, 7)), ("set", 0, 0)),)
    >>> log = ((5,), (0,), (put, read))
    >>> (turned(log, ((), ((0, 0), (1, 0)))), is_ring(log, ((), ((0, 0),))))
    (((1, 1), 5), False)
"""

TARIFFS = """
    >>> from paidahead.tariffs import charge, is_fair
    >>> put = ((("add", 0, 1), ("pay", 1)),)
    >>> read = ((("toll", 0, (0, 4, 6, 7, 7)), ("set", 0, 0)),)
    >>> log = ((5,), (0,), (put, read))
    >>> (charge(((3, 2), 1), (2, 1)), is_fair(log, ((3, 2), 1)), is_fair(log, ((1, 1), 1)))
    (8, True, False)
"""

STOCKS = """
    >>> from paidahead.stocks import needs
    >>> put = ((("add", 0, 1), ("pay", 1)),)
    >>> read = ((("toll", 0, (0, 4, 6, 7, 7)), ("set", 0, 0)),)
    >>> log = ((5,), (0,), (put, read))
    >>> needs(log, ((3, 2), 1))
    (((0,), 0), ((1,), 2), ((2,), 4), ((3,), 5), ((4,), 5))
    >>> from paidahead.stocks import sure
    >>> put = ((("add", 0, 1), ("pay", 1)),)
    >>> read = ((("toll", 0, (0, 4, 6, 7, 7)), ("set", 0, 0)),)
    >>> log = ((5,), (0,), (put, read))
    >>> sure(log, ((3, 2), 1), start=0)
    (((0,), 0), ((1,), 2), ((2,), 4), ((3,), 6), ((4,), 8))
"""

WORTHS = """
    >>> from paidahead.worths import worth
    >>> put = ((("add", 0, 1), ("pay", 1)),)
    >>> read = ((("toll", 0, (0, 4, 6, 7, 7)), ("set", 0, 0)),)
    >>> log = ((5,), (0,), (put, read))
    >>> (worth(log, (3, 2)), worth(log, (1, 1)), worth(log, (7, 2)))
    ((13, 1), (5, 1), (21, 1))
"""

PLANS = """
    >>> from paidahead.plans import is_within, plan_pays
    >>> put = ((("add", 0, 1), ("pay", 1)),)
    >>> read = ((("toll", 0, (0, 4, 6, 7, 7)), ("set", 0, 0)),)
    >>> log = ((5,), (0,), (put, read))
    >>> pair = (1, ((1, (), ((0, 0), (1, 0))), (1, (), ((0, 0), (0, 0), (1, 0)))))
    >>> (plan_pays(log, pair), is_within(log, pair, (3, 2)), is_within(log, pair, (3, 1)))
    ((13, 1), True, False)
"""

HOME = """
    >>> from paidahead.home import comes_home, strays
    >>> put = ((("add", 0, 1), ("pay", 1)),)
    >>> read = ((("toll", 0, (0, 4, 6, 7, 7)), ("set", 0, 0)),)
    >>> log = ((5,), (0,), (put, read))
    >>> (comes_home(log), strays(log), strays(((2,), (0,), (((("set", 0, 1),),),))))
    (True, (), ((1,),))
"""

FRONTS = """
    >>> from paidahead.fronts import front
    >>> put = ((("add", 0, 1), ("pay", 1)),)
    >>> read = ((("toll", 0, (0, 4, 6, 7, 7)), ("set", 0, 0)),)
    >>> log = ((5,), (0,), (put, read))
    >>> front(log)
    (((0, 11), 1), ((1, 7), 1), ((2, 4), 1), ((3, 2), 1), ((5, 0), 1))
"""

MOSTS = """
    >>> from paidahead.mosts import most
    >>> put = ((("add", 0, 1), ("pay", 1)),)
    >>> read = ((("toll", 0, (0, 4, 6, 7, 7)), ("set", 0, 0)),)
    >>> log = ((5,), (0,), (put, read))
    >>> (most(log, (4, 1)), most(log, (4, 2)))
    (11, 16)
"""

PAIRS = """
    >>> from paidahead.pairs import excess
    >>> one = ((2,), (0,), (((("toll", 0, (3, 0)), ("set", 0, 1)),), ((("toll", 0, (0, 1)), ("set", 0, 0)),)))
    >>> two = ((2,), (0,), (((("toll", 0, (1, 0)), ("set", 0, 1)),), ((("toll", 0, (0, 3)), ("set", 0, 0)),)))
    >>> (excess(one, two), excess(two, one))
    (2, 0)
"""

WINS = """
    >>> from paidahead.wins import winning_mix
    >>> put = ((("add", 0, 1), ("pay", 1)),)
    >>> read = ((("toll", 0, (0, 4, 6, 7, 7)), ("set", 0, 0)),)
    >>> log = ((5,), (0,), (put, read))
    >>> winning_mix(log, log) is None
    True
"""

CLAIMS = """
    >>> from paidahead.claims import decide
    >>> put = ((("add", 0, 1), ("pay", 1)),)
    >>> read = ((("toll", 0, (0, 4, 6, 7, 7)), ("set", 0, 0)),)
    >>> log = ((5,), (0,), (put, read))
    >>> (decide(log, ("worth", (3, 2), 13, 1))[0], decide(log, ("fair", ((1, 1), 1)))[0], decide(log, ("most", (4, 1), 11))[0])
    ('shown', 'broken', 'shown')
"""

CHECKER = """
    >>> from paidahead.checker import first_fault
    >>> put = ((("add", 0, 1), ("pay", 1)),)
    >>> read = ((("toll", 0, (0, 4, 6, 7, 7)), ("set", 0, 0)),)
    >>> log = ((5,), (0,), (put, read))
    >>> first_fault(log, ("broken", ("fair", ((3, 2), 1)), ((), ((0, 0), (1, 0)))))
    ('paid',)
"""

STREETS = """
    >>> from paidahead.streets import Street
    >>> put = ((("add", 0, 1), ("pay", 1)),)
    >>> read = ((("toll", 0, (0, 4, 6, 7, 7)), ("set", 0, 0)),)
    >>> log = ((5,), (0,), (put, read))
    >>> street = Street((log,), ((3, 2), 1))
    >>> paid = street.do(0, 0, 0)
    >>> (paid, street.purse(), street.content(0), street.forecast())
    (1, 2, (1,), 2)
"""

TEXTS = """
    >>> from paidahead.texts import format_house, format_tariff
    >>> put = ((("add", 0, 1), ("pay", 1)),)
    >>> read = ((("toll", 0, (0, 4, 6, 7, 7)), ("set", 0, 0)),)
    >>> log = ((5,), (0,), (put, read))
    >>> (format_house(log), format_tariff(((3, 2), 1)))
    ('cells 5\\nbegin 0\\ndeed\\nway\\nadd 0 1\\npay 1\\ndeed\\nway\\ntoll 0 by 0 4 6 7 7\\nset 0 0\\n', '3 2 by 1\\n')
"""

README = os.path.join(os.path.dirname(os.path.dirname(os.path.abspath(__file__))), "README.md")


class ExamplesTest(unittest.TestCase):
    def follow(self, text, name):
        test = doctest.DocTestParser().get_doctest(text, {}, name, None, None)
        told = []
        result = doctest.DocTestRunner(verbose=False).run(test, out=told.append)
        self.assertGreater(result.attempted, 0)
        self.assertEqual(result.failed, 0, "".join(told))

    def test_houses(self):
        self.follow(HOUSES, "houses")

    def test_moves(self):
        self.follow(MOVES, "moves")

    def test_histories(self):
        self.follow(HISTORIES, "histories")

    def test_rings(self):
        self.follow(RINGS, "rings")

    def test_tariffs(self):
        self.follow(TARIFFS, "tariffs")

    def test_stocks(self):
        self.follow(STOCKS, "stocks")

    def test_worths(self):
        self.follow(WORTHS, "worths")

    def test_plans(self):
        self.follow(PLANS, "plans")

    def test_home(self):
        self.follow(HOME, "home")

    def test_fronts(self):
        self.follow(FRONTS, "fronts")

    def test_mosts(self):
        self.follow(MOSTS, "mosts")

    def test_pairs(self):
        self.follow(PAIRS, "pairs")

    def test_wins(self):
        self.follow(WINS, "wins")

    def test_claims(self):
        self.follow(CLAIMS, "claims")

    def test_checker(self):
        self.follow(CHECKER, "checker")

    def test_streets(self):
        self.follow(STREETS, "streets")

    def test_texts(self):
        self.follow(TEXTS, "texts")

    def test_readme(self):
        with open(README, encoding="utf-8") as file:
            self.follow(file.read(), "README.md")


if __name__ == "__main__":
    unittest.main()
