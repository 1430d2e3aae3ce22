import random
import unittest

from paidahead.errors import Unfair
from paidahead.moves import moves
from paidahead.stocks import needing, needs, spending, sure
from tests import oracles
from tests.cases import Case
from tests.samples import BEHIND, FREE, LARGE, LOG, NAMED, ROOMS, ROUND, SHUT, STUCK, WHEEL, many_houses
from tests.test_tariffs import CORNERS, some_tariff

MOST_START = 900000000000


def fair_and_unfair():
    """Houses with tariffs that are fair, just fair, or not."""
    source = random.Random(12)
    found = [(LOG, (corner, 1)) for corner in CORNERS] + [(LOG, ((1, 1), 1)), (LOG, ((29, 20), 10))]
    found += [(WHEEL, ((10,), 3)), (WHEEL, ((3,), 1)), (ROUND, ((4, 5, 5), 1)), (ROUND, ((4, 5, 4), 1))]
    found += [(LARGE, ((61, 149, 21), 1)), (LARGE, ((61, 149, 20), 1)), (LARGE, ((1000, 2001, 701), 2))]
    for house in NAMED[:-1] + tuple(many_houses(12, 120)):
        found.extend((house, some_tariff(source, house)) for _ in range(3))
        found.append((house, ((700,) * len(house[2]), 1)))
    return [(house, tariff, fair(house, tariff)) for house, tariff in found]


def fair(house, tariff):
    if house == LARGE:
        return tariff != ((61, 149, 20), 1)
    return oracles.is_fair(house, tariff)


class StocksCase(Case):
    @classmethod
    def setUpClass(cls):
        cls.all = fair_and_unfair()
        cls.fair = [(house, tariff) for house, tariff, is_fair in cls.all if is_fair]
        cls.unfair = [(house, tariff) for house, tariff, is_fair in cls.all if not is_fair]


class NeedsTest(StocksCase):
    def test_known_needs(self):
        self.assertEqual(needs(LOG, ((3, 2), 1)), (((0,), 0), ((1,), 2), ((2,), 4), ((3,), 5), ((4,), 5)))
        self.assertEqual(needs(LOG, ((5, 0), 1)), (((0,), 0), ((1,), 4), ((2,), 6), ((3,), 7), ((4,), 7)))
        self.assertEqual(needs(LOG, ((0, 11), 1)), (((0,), 4), ((1,), 3), ((2,), 2), ((3,), 1), ((4,), 0)))
        self.assertEqual(needs(WHEEL, ((10,), 3)), (((0,), 0), ((1,), 7), ((2,), 14)))
        # The road pays 50 three times, and only 7 are charged for each move.
        self.assertEqual(needs(BEHIND, ((7,), 1)), (((0,), 129), ((1,), 86), ((2,), 43), ((3,), 0)))
        self.assertEqual(needs(STUCK, ((0, 0), 1)), (((0,), 0),))
        self.assertEqual(needs(SHUT, ((2,), 1)), (((1,), 0),))
        self.assertEqual(needs(FREE, ((0, 0), 1)), (((0,), 0), ((1,), 0), ((2,), 0)))
        self.assertEqual(needs(ROOMS, ((5, 5), 1)), (((0,), 0), ((1,), 0), ((2,), 0)))

    def test_none_where_the_tariff_is_not_fair(self):
        self.assertGreater(len(self.unfair), 100)
        for house, tariff in self.unfair:
            self.assertIsNone(needs(house, tariff))

    def test_the_greatest_of_all_histories(self):
        self.assertGreater(len(self.fair), 100)
        for house, tariff in self.fair:
            known = oracles.reached(house, house[1])
            expected = [(place, max(oracles.greatest_loss(house, tariff, place).values())) for place in known]
            self.assertEqual(needs(house, tariff), tuple(expected))

    def test_needs_are_the_least_stocks(self):
        for house, tariff in self.fair:
            prices, q = tariff
            stocks = dict(needs(house, tariff))
            least = {content: [0] for content in stocks}
            for content, stock in stocks.items():
                self.assertGreaterEqual(stock, 0)
                for (deed, _), after, paid in moves(house, content):
                    left = stock + prices[deed] - q * paid
                    self.assertLessEqual(stocks[after], left)
                    least[content].append(stocks[after] - prices[deed] + q * paid)
            for content, stock in stocks.items():
                self.assertEqual(stock, max(least[content]))


class NeedingTest(StocksCase):
    def test_a_history_with_this_need(self):
        for house, tariff in self.fair:
            for content, need in needs(house, tariff):
                history = needing(house, tariff, content)
                self.assertIsNotNone(oracles.led(house, content, history))
                self.assertEqual(oracles.loss(house, tariff, content, history), need)
                self.assertLessEqual(len(history), 10000)

    def test_nothing_where_nothing_is_needed(self):
        for house, tariff in self.fair:
            for content, need in needs(house, tariff):
                if need == 0:
                    self.assertEqual(needing(house, tariff, content), ())
        self.assertEqual(needing(LOG, ((3, 2), 1), (0,)), ())
        # All histories have 0 here.
        self.assertEqual(needing(FREE, ((0, 0), 1), (0,)), ())

    def test_known_histories(self):
        self.assertEqual(needing(LOG, ((3, 2), 1), (2,)), ((1, 0),))
        self.assertEqual(needing(BEHIND, ((7,), 1), (0,)), ((0, 0), (0, 0), (0, 0)))
        self.assertEqual(needing(WHEEL, ((10,), 3), (1,)), ((0, 0), (0, 1)))

    def test_unfair(self):
        for house, tariff in self.unfair:
            with self.assertRaises(Unfair):
                needing(house, tariff, house[1])


class SureTest(StocksCase):
    def test_known(self):
        self.assertEqual(sure(LOG, ((3, 2), 1), start=0), (((0,), 0), ((1,), 2), ((2,), 4), ((3,), 6), ((4,), 8)))
        self.assertEqual(sure(LOG, ((3, 2), 1), start=5), (((0,), 5), ((1,), 7), ((2,), 9), ((3,), 11), ((4,), 13)))
        self.assertEqual(sure(WHEEL, ((10,), 3), start=0), (((0,), 0), ((1,), 7), ((2,), 14)))
        self.assertEqual(sure(BEHIND, ((7,), 1), start=129), (((0,), 129), ((1,), 86), ((2,), 43), ((3,), 0)))
        self.assertEqual(sure(STUCK, ((0, 0), 1), start=3), (((0,), 3),))
        self.assertEqual(sure(SHUT, ((2,), 1), start=MOST_START), (((1,), MOST_START),))

    def test_the_least_of_all_histories(self):
        for house, tariff in self.fair:
            need = dict(needs(house, tariff))[house[1]]
            losses = oracles.greatest_loss(house, tariff, house[1])
            for start in (need, need + 1, need + 1000, MOST_START):
                expected = tuple((content, start - losses[content]) for content in sorted(losses))
                self.assertEqual(sure(house, tariff, start=start), expected)

    def test_just_below_the_need(self):
        asked = 0
        for house, tariff in self.fair:
            need = dict(needs(house, tariff))[house[1]]
            if need > 0:
                asked += 1
                for start in (0, need - 1):
                    with self.assertRaises(Unfair):
                        sure(house, tariff, start=start)
        self.assertGreater(asked, 20)

    def test_unfair(self):
        for house, tariff in self.unfair:
            for start in (0, MOST_START):
                with self.assertRaises(Unfair):
                    sure(house, tariff, start=start)

    def test_stocks_are_between_need_and_sure(self):
        for house, tariff in self.fair:
            stocks = needs(house, tariff)
            left = sure(house, tariff, start=dict(stocks)[house[1]])
            self.assertEqual([content for content, _ in stocks], [content for content, _ in left])
            for (_, need), (_, most) in zip(stocks, left):
                self.assertLessEqual(need, most)


class SpendingTest(StocksCase):
    def test_a_history_by_which_just_this_is_left(self):
        for house, tariff in self.fair:
            start = dict(needs(house, tariff))[house[1]]
            for content, left in sure(house, tariff, start=start):
                history = spending(house, tariff, content)
                self.assertEqual(oracles.led(house, house[1], history), content)
                self.assertEqual(start - oracles.loss(house, tariff, house[1], history), left)
                self.assertLessEqual(len(history), 10000)

    def test_known_histories(self):
        self.assertEqual(spending(LOG, ((3, 2), 1), (3,)), ((0, 0),) * 3)
        self.assertEqual(spending(ROUND, ((14, 0, 0), 1), (2,)), ((0, 0), (1, 0)))
        self.assertEqual(spending(BEHIND, ((8,), 1), (3,)), ((0, 0),) * 3)
        # Of two ways to the same content, the dearer one.
        house = ((2,), (0,), (((("set", 0, 1), ("pay", 3)), (("only", 0, 0, 0), ("set", 0, 1), ("pay", 4))),))
        self.assertEqual(spending(house, ((3,), 1), (1,)), ((0, 1),))

    def test_unfair(self):
        for house, tariff in self.unfair:
            with self.assertRaises(Unfair):
                spending(house, tariff, house[1])


class CallsTest(Case):
    def test_calls(self):
        dear = ((61000001, 149000000, 21000000), 1000000)
        for house, tariff in ((LOG, ((3, 2), 1)), (LARGE, ((61, 149, 21), 1)), (LARGE, dear)):
            self.check_calls(needs, [("house", house), ("tariff", tariff)])
            self.check_calls(sure, [("house", house), ("tariff", tariff)], [("start", MOST_START)])
            for content in oracles.reached(house, house[1]):
                self.check_calls(needing, [("house", house), ("tariff", tariff), ("content", content)])
                self.check_calls(spending, [("house", house), ("tariff", tariff), ("content", content)])


if __name__ == "__main__":
    unittest.main()
