import random
import unittest

from paidahead.errors import InvalidTariff
from paidahead.rings import is_ring
from paidahead.tariffs import charge, is_fair, require_tariff, short_ring
from tests import oracles
from tests.cases import ANY, Case, replacements
from tests.samples import BEHIND, FREE, LARGE, LOG, NAMED, ROOMS, ROUND, SHUT, STUCK, WHEEL, many_houses

# All corners of the front of LOG: each one just pays, and a little less does not.
CORNERS = ((0, 11), (1, 7), (2, 4), (3, 2), (5, 0))


def some_tariff(source, house):
    q = source.choice((1, 1, 2, 3, 7, 100))
    prices = tuple(source.choice((0, source.randrange(100 * q), source.randrange(700 * q))) for _ in house[2])
    return lowest_terms(prices, q)


def lowest_terms(prices, q):
    for number in range(2, q + 1):
        while q % number == 0 and all(price % number == 0 for price in prices):
            prices, q = tuple(price // number for price in prices), q // number
    return prices, q


class RequireTariffTest(Case):
    def check_valid(self, house, value):
        self.assertIs(require_tariff(house, value), value)

    def check_invalid(self, house, value):
        with self.assertRaises(InvalidTariff):
            require_tariff(house, value)

    def test_prices_at_their_bounds(self):
        for prices in ((0, 0), (0, 1), (1000000000, 1000000000), (0, 1000000000)):
            self.check_valid(LOG, (prices, 1))
        for prices in ((-1, 0), (0, -1), (1000000001, 0), (0, 1000000001), (10 ** 29, 1), (1, -10 ** 29)):
            self.check_invalid(LOG, (prices, 1))

    def test_q_at_its_bounds(self):
        for q in (1, 2, 999999, 1000000):
            self.check_valid(LOG, ((1, 0), q))
            self.check_valid(LOG, ((999999999, 1), q))
        for q in (0, -1, 1000001, 10 ** 29, -10 ** 29):
            self.check_invalid(LOG, ((1, 0), q))

    def test_lowest_terms(self):
        for value in (((2, 4), 3), ((0, 5), 2), ((6, 10), 15), ((1, 1000000), 1000000), ((999999937, 0), 1000000)):
            self.check_valid(LOG, value)
        for value in (((2, 4), 2), ((0, 5), 5), ((6, 10), 4), ((3, 6), 9), ((1000000000, 0), 1000000), ((9, 9), 3)):
            self.check_invalid(LOG, value)
        self.check_valid(WHEEL, ((10,), 3))
        self.check_invalid(WHEEL, ((9,), 3))
        self.check_valid(ROUND, ((6, 10, 15), 30))
        self.check_invalid(ROUND, ((6, 10, 14), 30))

    def test_all_prices_0(self):
        for house in NAMED:
            none = (0,) * len(house[2])
            self.check_valid(house, (none, 1))
            self.check_invalid(house, (none, 2))
            self.check_invalid(house, (none, 1000000))

    def test_a_price_for_each_deed(self):
        for house in NAMED:
            many = len(house[2])
            for other in range(5):
                if other == many:
                    self.check_valid(house, ((1,) * other, 1))
                else:
                    self.check_invalid(house, ((1,) * other, 1))

    def test_booleans_and_lists(self):
        for value in (
            ((True, 0), 1), ((0, False), 1), ((1, 0), True), [(3, 2), 1], ([3, 2], 1), ((3, 2), [1]), ((3, [2]), 1),
            {(3, 2): 1}, ((3, 2),), ((3, 2), 1, 1), ((3, 2), None), (None, 1), ("32", 1), ((3, 2), "1"), ((3, "2"), 1),
        ):
            self.check_invalid(LOG, value)

    def test_any_values(self):
        for house in NAMED:
            for value in ANY:
                self.check_invalid(house, value)
                if value not in ((0,), (0, 0, 0)):
                    self.check_invalid(house, (value, 1))
                if value not in (1, 2, 7) or value is True:
                    self.check_invalid(house, ((1,) * len(house[2]), value))

    def test_tariffs_with_an_odd_part(self):
        for value in replacements(((3, 2), 5)):
            # 7 is odd, but a number.
            if value not in (((7, 2), 5), ((3, 7), 5), ((3, 2), 7)):
                self.check_invalid(LOG, value)


class ChargeTest(Case):
    def test_charge(self):
        self.assertEqual(charge(((3, 2), 1), (2, 1)), 8)
        self.assertEqual(charge(((3, 2), 7), (2, 1)), 8)
        self.assertEqual(charge(((3, 2), 1), (0, 0)), 0)
        self.assertEqual(charge(((5,), 2), (3,)), 15)
        self.assertEqual(charge(((1, 10, 100), 1), (3, 2, 1)), 123)
        self.assertEqual(charge(((1000000000, 0), 1), (10000, 10000)), 10000000000000)


class FairTest(Case):
    def check_fair(self, house, tariff):
        self.assertIs(is_fair(house, tariff), True)
        self.assertIsNone(short_ring(house, tariff))

    def check_short(self, house, tariff):
        self.assertIs(is_fair(house, tariff), False)
        ring = short_ring(house, tariff)
        self.assertTrue(is_ring(house, ring))
        road, turn = ring
        start = oracles.led(house, house[1], road)
        self.assertNotEqual(turn, ())
        self.assertEqual(oracles.led(house, start, turn), start)
        self.assertGreater(oracles.loss(house, tariff, start, turn), 0)

    def test_just_fair_and_just_not(self):
        for first, second in CORNERS:
            self.check_fair(LOG, ((first, second), 1))
            self.check_fair(LOG, ((first + 1, second + 1), 1))
            self.check_fair(LOG, ((first * 1000000 + 1, second * 1000000), 1000000))
            if first > 0:
                self.check_short(LOG, ((first - 1, second), 1))
                self.check_short(LOG, ((first * 1000000 - 1, second * 1000000), 1000000))
            if second > 0:
                self.check_short(LOG, ((first, second - 1), 1))
                self.check_short(LOG, ((first * 1000000, second * 1000000 - 1), 1000000))

    def test_between_the_corners(self):
        self.check_fair(LOG, ((3, 11), 2))
        self.check_short(LOG, ((3, 10), 2))
        self.check_fair(LOG, ((4, 1), 1))
        self.check_fair(LOG, ((9, 1), 2))
        self.check_short(LOG, ((7, 1), 2))

    def test_rings_of_one_move(self):
        self.check_fair(SHUT, ((2,), 1))
        self.check_short(SHUT, ((1,), 1))
        self.check_short(SHUT, ((1999999,), 1000000))
        self.check_fair(SHUT, ((2000001,), 1000000))

    def test_rings_of_many_moves(self):
        self.check_fair(WHEEL, ((10,), 3))
        self.check_short(WHEEL, ((3,), 1))
        self.check_fair(WHEEL, ((3333334,), 1000000))
        self.check_short(WHEEL, ((3333333,), 1000000))

    def test_rings_that_only_deeds_together_make(self):
        for tariff in (((14, 0, 0), 1), ((0, 0, 14), 1), ((4, 5, 5), 1), ((1000000000, 0, 0), 1)):
            self.check_fair(ROUND, tariff)
        for tariff in (((13, 0, 0), 1), ((0, 0, 13), 1), ((4, 5, 4), 1), ((0, 0, 0), 1), ((9, 9, 9), 2)):
            self.check_short(ROUND, tariff)
        self.check_fair(LOG, ((5, 0), 1))
        self.check_short(LOG, ((4, 0), 1))

    def test_rings_behind_a_road(self):
        # The road pays 50 three times, but no ring pays more than 7.
        self.check_fair(BEHIND, ((7,), 1))
        self.check_short(BEHIND, ((6,), 1))
        self.assertEqual(short_ring(BEHIND, ((6,), 1)), (((0, 0),) * 3, ((0, 1),)))
        self.check_fair(ROOMS, ((5, 5), 1))
        self.check_short(ROOMS, ((4, 5), 1))
        self.check_short(ROOMS, ((5, 4), 1))
        self.check_short(ROOMS, ((1000000000, 4), 1))

    def test_rings_that_no_history_leads_to(self):
        self.check_fair(STUCK, ((0, 0), 1))
        self.check_fair(SHUT, ((2,), 1))

    def test_rings_that_pay_nothing(self):
        self.check_fair(FREE, ((0, 0), 1))

    def test_many_houses(self):
        source = random.Random(9)
        told = {True: 0, False: 0}
        for house in NAMED[:-1] + tuple(many_houses(9, 150)):
            for _ in range(4):
                tariff = some_tariff(source, house)
                require_tariff(house, tariff)
                fair = oracles.is_fair(house, tariff)
                told[fair] += 1
                if fair:
                    self.check_fair(house, tariff)
                else:
                    self.check_short(house, tariff)
        self.assertGreater(min(told.values()), 100)

    def test_the_largest_house(self):
        for tariff in (((61, 149, 21), 1), ((1000, 1000, 1000), 1)):
            self.check_fair(LARGE, tariff)
        for tariff in (((0, 0, 0), 1), ((60, 149, 21), 1), ((61, 148, 21), 1), ((61, 149, 20), 1)):
            self.check_short(LARGE, tariff)


class CallsTest(Case):
    def test_calls(self):
        for house, tariff in ((LOG, ((3, 2), 1)), (LOG, ((29, 20), 10)), (LARGE, ((61, 149, 20999999), 1000000))):
            self.check_calls(require_tariff, [("house", house), ("value", tariff)])
            self.check_calls(is_fair, [("house", house), ("tariff", tariff)])
            self.check_calls(short_ring, [("house", house), ("tariff", tariff)])
        self.check_calls(charge, [("tariff", ((3, 2), 1)), ("counts", (2, 1))])

    def test_a_value_that_is_no_tariff_is_not_modified(self):
        for value in ([[3, 2], 1], ([3, 2], 1), {(3, 2): [1]}, ((3, [2]), 1)):
            before = repr(value)
            with self.assertRaises(InvalidTariff):
                require_tariff(LOG, value)
            self.assertEqual(repr(value), before)


if __name__ == "__main__":
    unittest.main()
