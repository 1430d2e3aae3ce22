"""Answers of different files that must fit one another."""

import random
import unittest

from paidahead.fronts import front
from paidahead.histories import walked
from paidahead.mosts import most
from paidahead.pairs import excess
from paidahead.stocks import needing, needs
from paidahead.tariffs import charge
from paidahead.worths import best_tariff
from tests.samples import NAMED, guarded_houses, many_houses, rich_houses
from tests.test_mosts import product, some_limits
from tests.test_worths import some_mix

# Sizes of a house that counts moves of each deed, by the number of deeds.
COUNTS = {1: ((8,), (5,)), 2: ((4, 6), (2, 8)), 3: ((2, 3, 4), (4, 3, 2))}


def some_houses(seed):
    houses = list(NAMED) + many_houses(seed, 100) + guarded_houses(seed, 200)
    return houses + [house for deeds in (1, 2, 3) for house in rich_houses(seed, 5, deeds)]


def toll_house(prices):
    """A house whose deeds pay just these prices, which are at most 594, wherever they are done."""
    deeds = []
    for price in prices:
        steps = [("pay", 99)] * (price // 99) + [("pay", price % 99)] * (price % 99 > 0)
        deeds.append((tuple(steps),))
    return (2,), (0,), tuple(deeds)


def counting_house(sizes):
    """A house that counts the moves of each deed, up to one below the size, and pays nothing."""
    return sizes, (0,) * len(sizes), tuple(((("add", cell, 1),),) for cell in range(len(sizes)))


def need_of_begin(house, tariff):
    told = needs(house, tariff)
    return None if told is None else dict(told)[house[1]]


class TogetherTest(unittest.TestCase):
    def test_the_excess_over_a_house_that_pays_the_prices_is_the_need(self):
        source = random.Random(91)
        told = {True: 0, False: 0}
        for house in some_houses(91):
            mix = some_mix(source, len(house[2]))
            prices, q = best_tariff(house, mix)
            whole = tuple(-(-price // q) for price in prices)
            for less in (0, 0, 1, 3):
                tariff = tuple(max(0, price - source.randrange(less + 1)) for price in whole), 1
                expected = need_of_begin(house, tariff)
                if max(tariff[0]) <= 594:
                    self.assertEqual(excess(house, toll_house(tariff[0])), expected)
                    told[expected is None] += 1
        self.assertGreater(min(told.values()), 100)

    def test_the_excess_over_a_house_that_counts_is_the_most(self):
        for house in some_houses(92):
            for sizes in COUNTS[len(house[2])]:
                limits = tuple(size - 1 for size in sizes)
                self.assertEqual(excess(house, counting_house(sizes)), most(house, limits))

    def test_what_is_needed_is_the_most_beyond_the_charge(self):
        source = random.Random(93)
        for house in some_houses(93):
            tariff = best_tariff(house, some_mix(source, len(house[2])))
            need = need_of_begin(house, tariff)
            for _ in range(3):
                limits = some_limits(source, len(house[2]))
                self.assertLessEqual(tariff[1] * most(house, limits) - charge(tariff, limits), need)
            counts = walked(house, house[1], needing(house, tariff, house[1]))[1]
            if product(counts) <= 200:
                self.assertEqual(tariff[1] * most(house, counts) - charge(tariff, counts), need)

    def test_the_best_tariff_for_a_mix_without_a_0_is_a_corner(self):
        source = random.Random(94)
        for house in some_houses(94):
            if len(house[2]) == 2:
                mix = source.randrange(1, 101), source.randrange(1, 101)
                tariff = best_tariff(house, mix)
                sums = [charge(corner, mix) * tariff[1] - charge(tariff, mix) * corner[1] for corner in front(house)]
                self.assertEqual(min(sums), 0)


if __name__ == "__main__":
    unittest.main()
