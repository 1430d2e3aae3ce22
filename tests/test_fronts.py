import unittest
from fractions import Fraction

from paidahead.errors import TwoDeeds
from paidahead.fronts import front, front_rings
from paidahead.rings import is_ring
from paidahead.tariffs import charge, is_fair, require_tariff
from paidahead.worths import worth
from tests import oracles
from tests.cases import Case
from tests.samples import BEHIND, COUNTER, FIVE, FREE, FULL, LARGE, LARGE_PAIRS, LOG, NAMED, ROOMS, ROUND, SHUT, STUCK
from tests.samples import WHEEL, WIDE, guarded_houses, log_with, many_houses, rich_houses
from tests.test_worths import priced

PUT, READ = (0, 0), (1, 0)

# All mixes whose numbers are small: by each of them a corner has the least sum.
MIXES = tuple((a, b) for a in range(25) for b in range(25 - a) if a + b > 0)


def two_deeds(houses):
    return [house for house in houses if len(house[2]) == 2]


def some_houses(seed):
    return two_deeds(NAMED) + two_deeds(many_houses(seed, 150)) + two_deeds(guarded_houses(seed, 450))


class FrontCase(Case):
    def check_order(self, corners):
        points = [oracles.quotients(corner) for corner in corners]
        for (x, y), (x1, y1) in zip(points, points[1:]):
            self.assertLess(x, x1)
            self.assertGreater(y, y1)
        for (x, y), (x1, y1), (x2, y2) in zip(points, points[1:], points[2:]):
            self.assertGreater((x1 - x) * (y2 - y), (x2 - x) * (y1 - y))
        self.assertLessEqual(len(corners), 180)

    def check_tariffs(self, house, corners):
        """Each corner is a fair tariff in lowest terms, and with a price less it is not fair."""
        for corner in corners:
            self.assertIs(require_tariff(house, corner), corner)
            self.assertTrue(is_fair(house, corner))
            (x, y), q = corner
            if x > 0:
                self.assertFalse(is_fair(house, ((x * 1000 - 1, y * 1000), q * 1000)))
            if y > 0:
                self.assertFalse(is_fair(house, ((x * 1000, y * 1000 - 1), q * 1000)))

    def check_worths(self, house, corners, mixes):
        """By each mix the least of the corners' sums is the worth; so none lacks."""
        for mix in mixes:
            least = min((priced(corner, mix) for corner in corners), key=lambda told: Fraction(*told))
            self.assertEqual(least, worth(house, mix))

    def check_just_paid(self, house, ring, corners):
        self.assertTrue(is_ring(house, ring))
        road, turn = ring
        counts, paid = oracles.spent(house, oracles.led(house, house[1], road), turn)
        for corner in corners:
            self.assertEqual(charge(corner, counts), corner[1] * paid)
        return counts

    def check_rings(self, house, corners):
        told = front_rings(house)
        self.assertIs(type(told), tuple)
        first, edges, last = told
        self.assertIs(type(edges), tuple)
        self.assertEqual(len(edges), len(corners) - 1)
        self.assertEqual(first is None, corners[0][0][0] == 0)
        self.assertEqual(last is None, corners[-1][0][1] == 0)
        for ring, corner, after in zip(edges, corners, corners[1:]):
            self.check_just_paid(house, ring, (corner, after))
        if first is not None:
            self.assertEqual(self.check_just_paid(house, first, corners[:1])[1], 0)
        if last is not None:
            self.assertEqual(self.check_just_paid(house, last, corners[-1:])[0], 0)

    def check_front(self, house, mixes=MIXES):
        corners = front(house)
        self.assertIs(type(corners), tuple)
        self.check_order(corners)
        self.check_tariffs(house, corners)
        self.check_worths(house, corners, mixes)
        self.check_rings(house, corners)
        return corners


class FrontTest(FrontCase):
    def test_two_deeds(self):
        for house in (WHEEL, SHUT, BEHIND, ROUND, LARGE, LOG[:2] + (LOG[2][:1],), LOG[:2] + (LOG[2] + LOG[2][:1],)):
            with self.assertRaises(TwoDeeds):
                front(house)
            with self.assertRaises(TwoDeeds):
                front_rings(house)

    def test_no_ring_pays(self):
        road = ((8,), (0,), (((("add", 0, 1), ("pay", 99)),), ((),)))
        for house in (FREE, STUCK, road):
            self.assertEqual(front(house), (((0, 0), 1),))
            self.assertEqual(front_rings(house), (None, (), None))

    def test_known(self):
        self.assertEqual(front(LOG), (((0, 11), 1), ((1, 7), 1), ((2, 4), 1), ((3, 2), 1), ((5, 0), 1)))
        self.assertEqual(front(log_with(0, 1, 2, 3, 4)), (((0, 8), 1), ((2, 0), 1)))
        self.assertEqual(front(log_with(9, 4, 6, 7, 7)), (((0, 11), 1), ((1, 18), 2)))
        self.assertEqual(front(log_with(0, 0, 0, 0, 99)), (((0, 103), 1), ((103, 0), 4)))

    def test_a_single_corner_beside_each_price(self):
        for house, corner in (
            (ROOMS, ((5, 5), 1)),
            (((2,), (0,), (((("pay", 7),),), ((("set", 0, 0),),))), ((7, 0), 1)),
            (((2,), (0,), (((("set", 0, 0),),), ((("pay", 7),),))), ((0, 7), 1)),
            (((2,), (0,), (((("when", 0, 0, 0, ("pay", 7)), ("when", 0, 1, 1, ("set", 0, 0))),), ((),))), ((7, 0), 1)),
        ):
            self.assertEqual(front(house), (corner,))
            self.check_front(house)

    def test_prices_that_are_no_whole_numbers(self):
        self.assertEqual(front(FIVE), (((0, 5), 3), ((5, 0), 2)))
        self.check_front(FIVE)
        self.assertEqual(front(log_with(0, 0, 9, 0, 14)), (((0, 18), 1), ((7, 8), 2), ((11, 0), 2)))

    def test_they_ascend_and_descend_as_quotients(self):
        for tolls, corners in (
            ((0, 5, 6, 10, 18), (((0, 22), 1), ((16, 2), 3), ((6, 0), 1))),
            ((8, 10, 4, 8, 12), (((0, 16), 1), ((5, 28), 3), ((3, 8), 1))),
            ((6, 11, 12, 16, 10), (((0, 19), 1), ((7, 17), 2), ((6, 6), 1))),
        ):
            self.assertEqual(front(log_with(*tolls)), corners)
            self.check_front(log_with(*tolls))

    def test_many_houses(self):
        several = 0
        for house in some_houses(51):
            corners = front(house)
            self.check_order(corners)
            self.check_rings(house, corners)
            self.assertEqual([oracles.quotients(corner) for corner in corners], oracles.corners(house))
            several += len(corners) > 1
        self.assertGreater(several, 40)

    def test_many_mixes(self):
        for house in (LOG, ROOMS, FIVE, FULL[:2] + (FULL[2][:2],), WIDE):
            self.check_front(house)
        for house in some_houses(52)[::8]:
            self.check_front(house, MIXES[::7])

    def test_houses_of_24_contents(self):
        self.assertEqual(len(front(COUNTER)), 23)
        for house in LARGE_PAIRS:
            self.check_front(house, MIXES[::5])
        for house in rich_houses(53, 60):
            self.check_front(house, MIXES[::40])


class CallsTest(Case):
    def test_calls(self):
        for house in (LOG, FREE) + LARGE_PAIRS:
            self.check_calls(front, [("house", house)])
            self.check_calls(front_rings, [("house", house)])


if __name__ == "__main__":
    unittest.main()
