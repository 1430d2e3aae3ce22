import random
import unittest

from paidahead.pairs import excess, excess_history, excess_ring
from tests import oracles
from tests.cases import Case
from tests.samples import BEHIND, FREE, LARGE, LOG, NAMED, ROUND, SHUT, STUCK, WHEEL
from tests.samples import guarded_houses, log_with, many_houses, only_ways, rich_houses

PUT, READ = (0, 0), (1, 0)

ONE = ((2,), (0,), (((("toll", 0, (3, 0)), ("set", 0, 1)),), ((("toll", 0, (0, 1)), ("set", 0, 0)),)))
TWO = ((2,), (0,), (((("toll", 0, (1, 0)), ("set", 0, 1)),), ((("toll", 0, (0, 3)), ("set", 0, 0)),)))


def round_in_23(paid):
    """A house of one deed of three ways that turns round in 23 moves, the last of which pays."""
    return ((8, 3), (0, 0), ((
        (("only", 0, 0, 5), ("add", 0, 1)),
        (
            ("only", 1, 0, 1), ("only", 0, 6, 7),
            ("when", 0, 7, 7, ("add", 1, 1)), ("when", 0, 7, 7, ("set", 0, 0)), ("when", 0, 6, 6, ("set", 0, 7)),
        ),
        (("only", 1, 2, 2), ("only", 0, 6, 6), ("set", 0, 0), ("set", 1, 0), ("pay", paid)),
    ),))


def round_in_15(paid):
    """A house of one deed of one way that turns round in 15 moves, the last of which pays."""
    return ((6, 4), (0, 0), (((
        ("add", 0, 1), ("when", 0, 5, 5, ("add", 1, 1)), ("when", 0, 5, 5, ("when", 1, 3, 3, ("pay", paid))),
        ("when", 1, 3, 3, ("set", 1, 0)), ("when", 0, 5, 5, ("set", 0, 0)),
    ),),))


def beside(source, house, houses):
    """A house with as many deeds as this one, of one way each."""
    others = [other for other in houses if len(other[2]) == len(house[2])]
    return only_ways(source.choice(others), [source.randrange(3) for _ in house[2]])


class PairCase(Case):
    def check_history(self, house, other, history, expected):
        self.assertIs(type(history), tuple)
        self.assertLessEqual(len(history), 10000)
        self.assertEqual(oracles.common_walk(house, other, (house[1], other[1]), history)[1], expected)

    def check_ring(self, house, other, ring):
        road, turn = ring
        self.assertIs(type(ring), tuple)
        self.assertNotEqual(turn, ())
        self.assertLessEqual(max(len(road), len(turn)), 10000)
        start, _ = oracles.common_walk(house, other, (house[1], other[1]), road)
        end, gain = oracles.common_walk(house, other, start, turn)
        self.assertEqual(end, start)
        self.assertGreater(gain, 0)

    def check_excess(self, house, other, expected):
        told = excess(house, other)
        self.assertEqual(told, expected)
        if expected is None:
            self.assertIsNone(excess_history(house, other))
            self.check_ring(house, other, excess_ring(house, other))
        else:
            self.assertIs(type(told), int)
            self.check_history(house, other, excess_history(house, other), expected)
            self.assertIsNone(excess_ring(house, other))


class ExcessTest(PairCase):
    def test_known(self):
        self.check_excess(ONE, TWO, 2)
        self.check_excess(TWO, ONE, 0)
        # Where a read finds no put, this log pays 2 each time.
        self.check_excess(log_with(2, 4, 6, 7, 7), LOG, None)
        self.check_excess(LOG, log_with(2, 4, 6, 7, 7), 0)
        self.check_excess(log_with(0, 4, 6, 7, 8), LOG, None)
        self.check_excess(LOG, log_with(0, 4, 7, 7, 7), 0)

    def test_beside_itself(self):
        for house in NAMED:
            self.check_excess(only_ways(house), only_ways(house), 0)
        for house in rich_houses(71, 5, 3):
            self.check_excess(only_ways(house, (1, 1, 1)), only_ways(house, (1, 1, 1)), 0)

    def test_several_ways_in_the_first_house(self):
        # The other house always pays 5; the first one may pay 3, 4 or, once only, 9.
        other = ((2,), (0,), (((("pay", 5),),),))
        three, four = (("pay", 3),), (("pay", 4),)
        once = (("only", 0, 0, 0), ("pay", 9), ("set", 0, 1))
        self.check_excess(((2,), (0,), ((three, four),)), other, 0)
        self.check_excess(((2,), (0,), ((three, once, four),)), other, 4)
        self.check_excess(((2,), (0,), ((three, once, four),)), ((2,), (0,), (((("pay", 3),),),)), None)

    def test_deeds_that_bar_one_another(self):
        # The first house lets the deeds be done in turns, the other one only the second deed, or only the first.
        first = ((2,), (0,), (
            ((("only", 0, 0, 0), ("set", 0, 1), ("pay", 9)),), ((("only", 0, 1, 1), ("set", 0, 0), ("pay", 9)),),
        ))
        self.check_excess(first, ((2,), (0,), (((("only", 0, 1, 1),),), ((),))), 0)
        self.check_excess(first, ((2,), (0,), (((),), ((("only", 0, 1, 1),),))), 9)
        self.check_excess(first, ((2,), (0,), (((("add", 0, 1),),), ((),))), 18)
        self.check_excess(first, ((8,), (0,), (((("add", 0, 1),),), ((("add", 0, 1),),))), 63)
        self.check_excess(first, ((8,), (0,), (((("add", 0, 1),),), ((("take", 0, 1),),))), None)

    def test_nothing_can_be_done(self):
        for house in (STUCK, FREE):
            self.check_excess(house, only_ways(STUCK), 0)
            self.assertEqual(excess_history(house, only_ways(STUCK)), ())
        self.check_excess(LOG, only_ways(STUCK), 0)
        self.check_excess(STUCK, LOG, 0)

    def test_one_and_three_deeds(self):
        self.check_excess(WHEEL, only_ways(SHUT), None)
        self.check_excess(WHEEL, ((2,), (0,), (((("pay", 3),),),)), None)
        self.check_excess(WHEEL, ((2,), (0,), (((("pay", 4),),),)), 0)
        self.check_excess(BEHIND, ((2,), (0,), (((("pay", 7),),),)), 129)
        self.check_excess(BEHIND, ((2,), (0,), (((("pay", 6),),),)), None)
        self.check_excess(ROUND, only_ways(FREE[:2] + (FREE[2] + FREE[2][:1],)), None)
        self.check_excess(ROUND, ((2,), (0,), (((("pay", 2),),), ((("pay", 3),),), ((("pay", 9),),))), 0)
        self.check_excess(ROUND, ((2,), (0,), (((("pay", 3),),), ((("pay", 2),),), ((("pay", 9),),))), 0)
        self.check_excess(ROUND, ((2,), (0,), (((("pay", 1),),), ((("pay", 4),),), ((("pay", 9),),))), 1)

    def test_long_common_turns(self):
        # A common turn has 345 moves, and comes back in both houses only then: 15 times 20 is one more than 23 times
        # 13, and 15 times 23 is 23 times 15.
        self.check_excess(round_in_23(20), round_in_15(13), None)
        self.assertEqual(len(excess_ring(round_in_23(20), round_in_15(13))[1]) % 345, 0)
        for mine, theirs in ((23, 15), (3, 2), (99, 65)):
            house, other = round_in_23(mine), round_in_15(theirs)
            self.check_excess(house, other, oracles.excess(house, other))
            self.assertIsNotNone(excess(house, other))

    def test_many_houses(self):
        source = random.Random(72)
        houses = many_houses(72, 200) + guarded_houses(72, 200)
        told = {True: 0, False: 0}
        for house in houses:
            for _ in range(2):
                other = beside(source, house, houses)
                expected = oracles.excess(house, other)
                told[expected is None] += 1
                self.check_excess(house, other, expected)
        self.assertGreater(min(told.values()), 100)

    def test_houses_of_24_contents(self):
        source = random.Random(73)
        houses = [house for deeds in (1, 2, 3) for house in rich_houses(73, 12, deeds)] + [LARGE]
        for house in houses:
            other = beside(source, house, houses)
            self.check_excess(house, other, oracles.excess(house, other))


class CallsTest(PairCase):
    def test_calls(self):
        dear = only_ways(LARGE, (1, 2, 0))
        long = round_in_23(20)
        for house, other in ((LOG, LOG), (LARGE, only_ways(LARGE)), (LARGE, dear), (long, round_in_15(13))):
            for function in (excess, excess_history, excess_ring):
                self.check_calls(function, [("house", house), ("other", other)])


if __name__ == "__main__":
    unittest.main()
