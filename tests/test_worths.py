import random
import unittest
from itertools import permutations

from paidahead.plans import best_plan
from paidahead.tariffs import require_tariff
from paidahead.worths import best_tariff, worth
from tests import oracles
from tests.cases import Case
from tests.samples import BEHIND, FIVE, FREE, LARGE, LOG, NAMED, ROOMS, ROUND, SHUT, STUCK, WHEEL
from tests.samples import guarded_houses, many_houses


def some_mix(source, many):
    """A mix of this many numbers, often with a 0 in it, sometimes with large numbers."""
    mix = (0,) * many
    while not any(mix):
        mix = tuple(source.choice((0, 1, 2, 3, 5, 100, source.randrange(101))) for _ in range(many))
    return mix


def houses_and_mixes(seed, how_many):
    source = random.Random(seed)
    houses = [house for house in NAMED if house != LARGE] * 4
    houses += many_houses(seed, how_many // 2) + guarded_houses(seed, how_many // 2)
    return [(house, some_mix(source, len(house[2]))) for house in houses]


def priced(tariff, mix):
    """The sum of a tariff by a mix, as (p, q)."""
    prices, q = tariff
    return oracles.lowest(sum(number * price for number, price in zip(mix, prices)), q)


class WorthTest(Case):
    def test_one_deed(self):
        self.assertEqual(worth(WHEEL, (1,)), (10, 3))
        self.assertEqual(worth(WHEEL, (3,)), (10, 1))
        self.assertEqual(worth(WHEEL, (100,)), (1000, 3))
        self.assertEqual(worth(SHUT, (7,)), (14, 1))
        self.assertEqual(worth(BEHIND, (1,)), (7, 1))

    def test_two_deeds(self):
        self.assertEqual(worth(LOG, (3, 2)), (13, 1))
        self.assertEqual(worth(LOG, (1, 1)), (5, 1))
        self.assertEqual(worth(LOG, (7, 2)), (21, 1))
        self.assertEqual(worth(LOG, (100, 1)), (11, 1))
        self.assertEqual(worth(LOG, (1, 100)), (5, 1))

    def test_rings_that_two_deeds_make(self):
        self.assertEqual(worth(FIVE, (1, 1)), (5, 3))
        self.assertEqual(worth(FIVE, (2, 3)), (5, 1))
        self.assertEqual(worth(FIVE, (1, 100)), (5, 2))
        self.assertEqual(worth(FIVE, (0, 1)), (0, 1))

    def test_rings_that_three_deeds_make(self):
        self.assertEqual(worth(ROUND, (1, 1, 1)), (14, 1))
        self.assertEqual(worth(ROUND, (5, 9, 7)), (70, 1))
        self.assertEqual(worth(ROUND, (9, 7, 5)), (70, 1))
        self.assertEqual(worth(ROUND, (100, 100, 1)), (14, 1))

    def test_a_0_in_the_mix(self):
        self.assertEqual(worth(LOG, (0, 1)), (0, 1))
        self.assertEqual(worth(LOG, (1, 0)), (0, 1))
        self.assertEqual(worth(ROUND, (1, 1, 0)), (0, 1))
        self.assertEqual(worth(ROOMS, (1, 0)), (5, 1))
        self.assertEqual(worth(ROOMS, (0, 3)), (15, 1))

    def test_no_ring_pays(self):
        for house, mix in ((FREE, (1, 1)), (FREE, (0, 100)), (STUCK, (1, 0)), (STUCK, (100, 100))):
            self.assertEqual(worth(house, mix), (0, 1))
        self.assertEqual(worth(((8,), (0,), (((("add", 0, 1), ("pay", 99)),),)), (100,)), (0, 1))

    def test_two_rooms_without_a_way_between_them(self):
        self.assertEqual(worth(ROOMS, (1, 1)), (10, 1))
        self.assertEqual(worth(ROOMS, (3, 2)), (25, 1))
        self.assertEqual(len(best_plan(ROOMS, (3, 2))[1]), 2)

    def test_the_least_sum(self):
        quotients = 0
        for house, mix in houses_and_mixes(21, 300):
            told = worth(house, mix)
            quotients += told[1] > 1
            self.assertEqual(told, oracles.worth(house, mix))
            self.assertEqual(told, oracles.lowest(*told))
        self.assertGreater(quotients, 20)

    def test_twice_the_mix(self):
        for house, mix in houses_and_mixes(22, 200) + [(LARGE, (3, 2, 5)), (LARGE, (50, 0, 1))]:
            half = tuple(number // 2 for number in mix)
            if any(half):
                p, q = worth(house, half)
                self.assertEqual(worth(house, tuple(2 * number for number in half)), oracles.lowest(2 * p, q))

    def test_the_order_of_the_deeds(self):
        for house, mix in houses_and_mixes(23, 100) + [(LARGE, (3, 2, 5)), (LARGE, (50, 0, 1))]:
            told = worth(house, mix)
            for order in permutations(range(len(mix))):
                other = house[:2] + (tuple(house[2][deed] for deed in order),)
                self.assertEqual(worth(other, tuple(mix[deed] for deed in order)), told)


class BestTariffTest(Case):
    def test_known(self):
        self.assertEqual(best_tariff(LOG, (3, 2)), ((3, 2), 1))
        self.assertEqual(best_tariff(LOG, (7, 2)), ((1, 7), 1))
        self.assertEqual(best_tariff(WHEEL, (5,)), ((10,), 3))
        self.assertEqual(best_tariff(SHUT, (5,)), ((2,), 1))
        self.assertEqual(best_tariff(ROOMS, (1, 1)), ((5, 5), 1))
        self.assertEqual(best_tariff(STUCK, (1, 1)), ((0, 0), 1))

    def test_a_deed_that_is_not_in_the_mix_may_be_dear(self):
        prices, q = best_tariff(LOG, (1, 0))
        self.assertEqual(prices[0], 0)
        self.assertGreaterEqual(prices[1], 11 * q)
        self.assertTrue(oracles.is_fair(LOG, (prices, q)))

    def test_a_price_that_two_rings_would_put_below_0(self):
        # The turns (1, 2), which pays 3, and (0, 1), which pays 2, are both just paid by the prices (-1, 2).
        house = ((3,), (0,), (
            ((("only", 0, 2, 2), ("pay", 2), ("set", 0, 0)),),
            ((("only", 0, 2, 2), ("take", 0, 1)), (("toll", 0, (1, 0, 2)), ("when", 0, 0, 1, ("add", 0, 1)))),
        ))
        self.assertEqual(oracles.turns(house), [((0, 1), 2), ((0, 2), 0), ((1, 2), 3)])
        self.assertEqual(worth(house, (1, 3)), (6, 1))
        self.assertEqual(best_tariff(house, (1, 3)), ((0, 2), 1))

    def test_fair_tariffs_with_this_sum(self):
        for house, mix in houses_and_mixes(24, 500):
            tariff = best_tariff(house, mix)
            self.assertIs(require_tariff(house, tariff), tariff)
            self.assertTrue(oracles.is_fair(house, tariff))
            self.assertEqual(priced(tariff, mix), worth(house, mix))

    def test_numbers_are_of_the_right_kind(self):
        for house, mix in houses_and_mixes(25, 50):
            prices, q = best_tariff(house, mix)
            self.assertTrue(all(type(number) is int for number in prices + (q,) + worth(house, mix)))


class CallsTest(Case):
    def test_calls(self):
        for house, mix in ((LOG, (3, 2)), (LARGE, (3, 2, 5)), (LARGE, (0, 100, 1)), (LARGE, (0, 0, 1)), (WHEEL, (1,))):
            self.check_calls(worth, [("house", house), ("mix", mix)])
            self.check_calls(best_tariff, [("house", house), ("mix", mix)])

    def test_mixes_somewhat_beyond_the_bounds(self):
        self.assertEqual(worth(LOG, (300, 200)), (1300, 1))
        self.assertEqual(best_tariff(LOG, (300, 200)), ((3, 2), 1))


if __name__ == "__main__":
    unittest.main()
