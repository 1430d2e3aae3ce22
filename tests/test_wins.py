import random
import unittest

from paidahead.errors import TwoDeeds
from paidahead.fronts import front
from paidahead.tariffs import is_fair
from paidahead.wins import winning_mix
from paidahead.worths import worth
from tests import oracles
from tests.cases import Case
from tests.samples import BEHIND, FIVE, FREE, LARGE, LARGE_PAIRS, LOG, ROOMS, ROUND, SHUT, STUCK, WHEEL
from tests.samples import guarded_houses, log_with, many_houses, rich_houses
from tests.test_fronts import MIXES, two_deeds


class WinsCase(Case):
    def is_won(self, house, other, mix):
        (p, q), (p_other, q_other) = worth(house, mix), worth(other, mix)
        return p * q_other < p_other * q

    def check_mix(self, house, other, mix):
        self.assertIs(type(mix), tuple)
        self.assertEqual(len(mix), 2)
        self.assertTrue(all(type(number) is int and 0 <= number <= 100 for number in mix))
        self.assertTrue(any(mix))
        self.assertTrue(self.is_won(house, other, mix))

    def check_wins(self, house, other, expected):
        mix = winning_mix(house, other)
        self.assertIs(mix is not None, expected)
        if expected:
            self.check_mix(house, other, mix)
        return mix

    def won(self, house, other):
        """The mixes of small numbers that the house wins."""
        return [mix for mix in MIXES if self.is_won(house, other, mix)]


class WinningMixTest(WinsCase):
    def test_two_deeds(self):
        for house, other in (
            (WHEEL, LOG), (LOG, WHEEL), (ROUND, LOG), (LOG, ROUND), (WHEEL, WHEEL), (ROUND, ROUND), (LARGE, LARGE),
            (SHUT, BEHIND), (LARGE, LOG), (LOG, LARGE),
        ):
            with self.assertRaises(TwoDeeds):
                winning_mix(house, other)

    def test_against_itself(self):
        for house in (LOG, ROOMS, FIVE, FREE, STUCK) + LARGE_PAIRS + tuple(rich_houses(81, 20)):
            self.check_wins(house, house, False)

    def test_against_a_dearer_and_a_cheaper_one(self):
        dear = log_with(0, 5, 7, 8, 8)
        self.check_wins(LOG, dear, True)
        self.check_wins(dear, LOG, False)
        self.check_wins(FREE, LOG, True)
        self.check_wins(LOG, FREE, False)
        self.check_wins(FREE, STUCK, False)
        self.check_wins(STUCK, FREE, False)

    def test_houses_that_win_for_a_few_mixes_only(self):
        for tolls, won in (((0, 4, 7, 7, 7), (5, 2)), ((0, 4, 6, 8, 7), (7, 2)), ((0, 4, 6, 7, 8), (9, 1))):
            other = log_with(*tolls)
            self.check_wins(other, LOG, False)
            self.check_wins(LOG, other, True)
            self.assertIn(won, self.won(LOG, other))
            self.assertLess(len(self.won(LOG, other)), 200)

    def test_a_ring_that_changes_no_corner_and_one_that_does(self):
        def log_or(content, paid):
            """LOG with another way to read."""
            return LOG[:2] + ((LOG[2][0], LOG[2][1] + ((("only", 0, content, content), ("pay", paid), ("set", 0, 0)),)),)

        self.check_wins(LOG, log_or(2, 6), False)
        mix = self.check_wins(LOG, log_or(3, 8), True)
        self.assertIn(mix, self.won(LOG, log_or(3, 8)))
        self.assertTrue(all(second and 2 < first / second < 4 for first, second in self.won(LOG, log_or(3, 8))))

    def test_a_mix_with_a_0(self):
        calm = ((2,), (0,), (((("pay", 3),),), ((("pay", 4),),)))
        first = ((2,), (0,), (((("pay", 4),),), ((("pay", 4),),)))
        second = ((2,), (0,), (((("pay", 3),),), ((("pay", 5),),)))
        self.check_wins(calm, first, True)
        self.assertIn((1, 0), self.won(calm, first))
        self.assertNotIn((0, 1), self.won(calm, first))
        self.check_wins(calm, second, True)
        self.assertIn((0, 1), self.won(calm, second))
        self.assertNotIn((1, 0), self.won(calm, second))
        self.check_wins(first, calm, False)
        self.check_wins(second, calm, False)
        self.check_wins(first, second, True)
        self.check_wins(second, first, True)

    def test_fronts_that_cross_between_two_corners(self):
        # Two puts and a read pay 10, or a put and a read pay 7: the fronts cross at (3, 4), which is no corner.
        two = ((3,), (0,), (((("add", 0, 1),),), ((("only", 0, 2, 2), ("set", 0, 0), ("pay", 10)),)))
        one = ((2,), (0,), (((("add", 0, 1),),), ((("only", 0, 1, 1), ("set", 0, 0), ("pay", 7)),)))
        self.assertEqual((front(two), front(one)), ((((0, 10), 1), ((5, 0), 1)), (((0, 7), 1), ((7, 0), 1))))
        self.check_wins(two, one, True)
        self.check_wins(one, two, True)
        self.assertIn((1, 1), self.won(two, one))
        self.assertIn((2, 1), self.won(one, two))

    def test_crossing_both_ways(self):
        first, second = log_with(0, 1, 8, 8, 8), log_with(0, 5, 5, 5, 13)
        self.check_wins(first, second, True)
        self.check_wins(second, first, True)
        self.assertTrue(self.won(first, second))
        self.assertTrue(self.won(second, first))

    def test_many_houses(self):
        source = random.Random(82)
        houses = two_deeds(many_houses(82, 150)) + two_deeds(guarded_houses(82, 300)) + [LOG, ROOMS, FIVE, FREE]
        told = {True: 0, False: 0}
        for house in houses:
            other = source.choice(houses)
            # If all corners are fair tariffs of the other house, its worth is nowhere more.
            expected = not all(is_fair(other, corner) for corner in front(house))
            told[expected] += 1
            self.check_wins(house, other, expected)
            if not expected:
                self.assertFalse([mix for mix in MIXES[::9] if self.is_won(house, other, mix)])
        self.assertGreater(min(told.values()), 50)

    def test_by_worths_worked_out_in_the_plain_way(self):
        source = random.Random(83)
        houses = [LOG, ROOMS, FIVE, FREE] + two_deeds(guarded_houses(83, 60))
        for house in houses:
            other = source.choice(houses)
            won = [
                mix for mix in MIXES[::11]
                if oracles.Fraction(*oracles.worth(house, mix)) < oracles.Fraction(*oracles.worth(other, mix))
            ]
            mix = winning_mix(house, other)
            self.assertFalse(won and mix is None)
            if mix is not None:
                mine, theirs = oracles.worth(house, mix), oracles.worth(other, mix)
                self.assertLess(oracles.Fraction(*mine), oracles.Fraction(*theirs))

    def test_houses_of_24_contents(self):
        source = random.Random(84)
        houses = rich_houses(84, 60) + list(LARGE_PAIRS)
        for house in houses:
            other = source.choice(houses)
            mix = winning_mix(house, other)
            if mix is None:
                self.assertFalse([mix for mix in MIXES[::30] if self.is_won(house, other, mix)])
            else:
                self.check_mix(house, other, mix)


class CallsTest(Case):
    def test_calls(self):
        for house in (LOG, FREE) + LARGE_PAIRS:
            for other in (LOG, FREE) + LARGE_PAIRS:
                self.check_calls(winning_mix, [("house", house), ("other", other)])


if __name__ == "__main__":
    unittest.main()
