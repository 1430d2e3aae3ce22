import random
import unittest

from paidahead.mosts import most, most_history
from tests import oracles
from tests.cases import Case
from tests.samples import BEHIND, COUNTER, FREE, FULL, LARGE, LOG, NAMED, ROOMS, ROUND, SHUT, STUCK, WHEEL
from tests.samples import guarded_houses, many_houses, rich_houses

PUT, READ = (0, 0), (1, 0)

# Limits with the greatest product, by the number of deeds.
FULL_LIMITS = {
    1: ((199,),),
    2: ((0, 199), (199, 0), (1, 99), (7, 24), (24, 7), (13, 13)),
    3: ((0, 0, 199), (199, 0, 0), (0, 199, 0), (1, 1, 49), (4, 4, 7), (7, 4, 4), (9, 1, 9), (4, 5, 5)),
}


def some_limits(source, many):
    limits = (0,) * many
    for _ in range(source.randrange(12)):
        at = source.randrange(many)
        limits = limits[:at] + (limits[at] + 1,) + limits[at + 1:]
    return limits if product(limits) <= 200 else (3,) * many


def product(limits):
    found = 1
    for limit in limits:
        found *= limit + 1
    return found


class MostTest(Case):
    def check_most(self, house, limits, expected=None):
        told = most(house, limits)
        self.assertIs(type(told), int)
        self.assertEqual(told, oracles.most(house, limits) if expected is None else expected)
        history = most_history(house, limits)
        self.assertIs(type(history), tuple)
        self.assertIsNotNone(oracles.led(house, house[1], history))
        counts, paid = oracles.spent(house, house[1], history)
        self.assertTrue(all(count <= limit for count, limit in zip(counts, limits)), (house, limits, history))
        self.assertEqual(paid, told)

    def test_known(self):
        for limits, expected in (((4, 1), 11), ((4, 2), 16), ((4, 0), 4), ((9, 0), 4), ((0, 9), 0), ((2, 2), 10)):
            self.check_most(LOG, limits, expected)
        self.check_most(ROUND, (1, 1, 1), 14)
        self.check_most(ROUND, (2, 1, 1), 16)
        self.check_most(ROUND, (9, 0, 9), 2)
        self.check_most(BEHIND, (3,), 150)
        self.check_most(BEHIND, (5,), 164)

    def test_limits_of_0(self):
        for house in NAMED:
            none = (0,) * len(house[2])
            self.check_most(house, none, 0)
            self.assertEqual(most_history(house, none), ())

    def test_one_deed_alone(self):
        self.check_most(WHEEL, (199,), 661)
        self.check_most(SHUT, (199,), 398)
        self.check_most(BEHIND, (199,), 150 + 196 * 7)
        self.check_most(LOG, (199, 0), 4)
        self.check_most(ROOMS, (199, 0), 198 * 5)
        self.check_most(ROOMS, (1, 99), 99 * 5)

    def test_nothing_can_be_done(self):
        for limits in ((0, 0), (1, 0), (0, 1), (13, 13), (199, 0)):
            self.check_most(STUCK, limits, 0)
            self.assertEqual(most_history(STUCK, limits), ())

    def test_nothing_is_paid(self):
        for limits in ((1, 0), (0, 1), (13, 13)):
            self.check_most(FREE, limits, 0)

    def test_a_way_that_pays_less_now_and_more_later(self):
        # The dear way leads to where nothing can be done any more.
        house = ((3,), (0,), ((
            (("only", 0, 0, 0), ("pay", 9), ("set", 0, 2)), (("only", 0, 0, 1), ("set", 0, 1), ("pay", 2)),
        ),))
        for limit, expected in ((1, 9), (4, 9), (5, 10), (199, 398)):
            self.check_most(house, (limit,), expected)

    def test_deeds_that_need_not_be_done_as_often_as_allowed(self):
        # The second deed bars the first one for ever.
        house = ((2,), (0,), (((("only", 0, 0, 0), ("pay", 3)),), ((("set", 0, 1), ("pay", 2)),)))
        for limits, expected in (((5, 1), 17), ((5, 0), 15), ((0, 5), 10), ((1, 3), 9)):
            self.check_most(house, limits, expected)
        shut = ((2,), (0,), (((("only", 0, 0, 0), ("pay", 3)),), ((("set", 0, 1),),)))
        self.check_most(shut, (4, 9), 12)

    def test_limits_with_the_greatest_product(self):
        for house in (LOG, FULL, ROUND, ROOMS, WHEEL, COUNTER, LARGE):
            for limits in FULL_LIMITS[len(house[2])]:
                self.check_most(house, limits)

    def test_many_houses(self):
        source = random.Random(61)
        for house in many_houses(61, 200) + guarded_houses(61, 200):
            for _ in range(3):
                self.check_most(house, some_limits(source, len(house[2])))

    def test_houses_of_24_contents(self):
        source = random.Random(62)
        for deeds in (1, 2, 3):
            for house in rich_houses(62, 8, deeds):
                self.check_most(house, source.choice(FULL_LIMITS[deeds]))
                self.check_most(house, some_limits(source, deeds))


class CallsTest(Case):
    def test_calls(self):
        for house in (LOG, WHEEL, LARGE, COUNTER):
            for limits in FULL_LIMITS[len(house[2])]:
                self.check_calls(most, [("house", house), ("limits", limits)])
                self.check_calls(most_history, [("house", house), ("limits", limits)])


if __name__ == "__main__":
    unittest.main()
