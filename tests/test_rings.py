import random
import unittest

from paidahead.rings import is_ring, turned
from tests.cases import ANY, Case, replacements
from tests.oracles import led, spent
from tests.samples import BEHIND, FULL, LARGE, LOG, NAMED, ROOMS, ROUND, SHUT, STUCK, WHEEL, many_houses, some_history

PUT, READ = (0, 0), (1, 0)


class IsRingTest(Case):
    def test_rings_without_a_road(self):
        for house, turn in (
            (LOG, (PUT, READ)), (LOG, (READ,)), (LOG, (PUT, PUT, READ, READ, PUT, READ)), (SHUT, ((0, 0),)),
            (ROUND, ((0, 0), (1, 0), (2, 0))), (WHEEL, ((0, 0), (0, 0), (0, 1))), (FULL, ((0, 1),)),
        ):
            self.assertIs(is_ring(house, ((), turn)), True)

    def test_rings_with_a_road(self):
        for house, road, turn in (
            (LOG, (PUT, PUT), (READ, PUT, PUT)), (LOG, (PUT, READ), (READ,)), (ROOMS, ((0, 1),), ((1, 0),)),
            (BEHIND, ((0, 0),) * 3, ((0, 1),)), (ROUND, ((0, 0),), ((1, 0), (2, 0), (0, 0))),
        ):
            self.assertIs(is_ring(house, (road, turn)), True)

    def test_no_pair(self):
        for value in ((), ((),), ((READ,),), ((), (READ,), ()), [(), (READ,)], {(): (READ,)}, None, 2, "()"):
            self.assertIs(is_ring(LOG, value), False)

    def test_no_turn(self):
        self.assertIs(is_ring(LOG, ((), ())), False)
        self.assertIs(is_ring(LOG, ((PUT, PUT), ())), False)
        self.assertIs(is_ring(STUCK, ((), ())), False)

    def test_a_turn_that_does_not_come_back(self):
        self.assertIs(is_ring(LOG, ((), (PUT,))), False)
        # It comes back to begin, but not to where the road leads.
        self.assertIs(is_ring(LOG, ((PUT, PUT), (READ,))), False)
        # It would come back from begin, but the road leads to somewhere else.
        self.assertIs(is_ring(LOG, ((PUT,), (PUT, READ))), False)
        self.assertIs(is_ring(LOG, ((PUT,), (PUT, READ, PUT))), True)

    def test_no_moves(self):
        for move in (
            (), (1,), (1, 0, 0), [1, 0], (2, 0), (1, 1), (-1, 0), (1, -1), (1, None), (None, 0), ("1", 0), (1, "0"),
            ((1,), 0), 1, None, "10", {1: 0}, (10 ** 29, 0), (1, 10 ** 29),
        ):
            with self.subTest(move=move):
                self.assertIs(is_ring(LOG, ((), (move,))), False)
                self.assertIs(is_ring(LOG, ((move,), (READ,))), False)
                self.assertIs(is_ring(LOG, ((), (READ, move))), False)
                self.assertIs(is_ring(LOG, ((READ, move), (READ,))), False)

    def test_ways_are_counted_for_each_deed(self):
        self.assertIs(is_ring(ROOMS, (((0, 1),), ((0, 2),))), True)
        self.assertIs(is_ring(ROOMS, (((0, 1),), ((0, 3),))), False)
        self.assertIs(is_ring(ROOMS, (((0, 1),), ((1, 1),))), False)

    def test_booleans(self):
        for move in ((True, 0), (1, False), (True, False)):
            self.assertIs(is_ring(LOG, ((), (move,))), False)
            self.assertIs(is_ring(LOG, ((move,), (READ,))), False)

    def test_lists(self):
        for value in (
            [(), (READ,)], ([], (READ,)), ((), [READ]), ((), ([1, 0],)), (([1, 0],), (READ,)), [[], [[1, 0]]],
        ):
            self.assertIs(is_ring(LOG, value), False)

    def test_barred(self):
        self.assertIs(is_ring(LOG, ((PUT,) * 5, (READ,))), False)
        self.assertIs(is_ring(LOG, ((PUT,) * 5 + (READ,), (READ,))), False)
        self.assertIs(is_ring(LOG, ((PUT,) * 4, (PUT, READ, PUT, PUT, PUT, PUT))), False)
        self.assertIs(is_ring(LOG, ((), (PUT,) * 5 + (READ,))), False)
        self.assertIs(is_ring(ROUND, (((1, 0),), ((0, 0), (1, 0), (2, 0)))), False)
        self.assertIs(is_ring(ROUND, ((), ((0, 0), (1, 0), (1, 0)))), False)
        self.assertIs(is_ring(SHUT, ((), ((0, 1),))), False)

    def test_ten_thousand_moves(self):
        self.assertIs(is_ring(LOG, ((), (PUT, READ) * 5000)), True)
        self.assertIs(is_ring(LOG, ((), (PUT, READ) * 5000 + (READ,))), False)
        self.assertIs(is_ring(LOG, ((READ,) * 10000, (READ,) * 10000)), True)
        self.assertIs(is_ring(LOG, ((READ,) * 10001, (READ,))), False)
        self.assertIs(is_ring(LOG, ((READ,) * 200000, (READ,))), False)
        self.assertIs(is_ring(LOG, ((), (READ,) * 200000)), False)

    def test_any_values(self):
        for house in NAMED:
            for value in ANY:
                self.assertIs(is_ring(house, value), False)
                self.assertIs(is_ring(house, ((), value)), False)
                self.assertIs(is_ring(house, (value, value)), False)
                if value not in (1, 2) or value is True:
                    self.assertIs(is_ring(house, ((), ((0, value),))), False)

    def test_rings_with_an_odd_part(self):
        for house, ring in ((LOG, ((PUT, PUT), (READ, PUT, PUT))), (BEHIND, (((0, 0),) * 3, ((0, 1),)))):
            self.assertTrue(is_ring(house, ring))
            for value in replacements(ring):
                if value != (ring[0][:-1], ring[1]):
                    self.assertIs(is_ring(house, value), False, value)

    def test_many_houses(self):
        source = random.Random(7)
        rings = 0
        for house in NAMED + tuple(many_houses(7, 300)):
            road = some_history(source, house, house[1], source.randrange(4))
            start = led(house, house[1], road)
            turn = some_history(source, house, start, source.randrange(6))
            expected = turn != () and led(house, start, turn) == start
            rings += expected
            self.assertIs(is_ring(house, (road, turn)), expected)
        self.assertGreater(rings, 50)


class TurnedTest(Case):
    def test_the_turn_alone_counts(self):
        self.assertEqual(turned(LOG, ((), (PUT, READ))), ((1, 1), 5))
        self.assertEqual(turned(LOG, ((PUT, PUT), (READ, PUT, PUT))), ((2, 1), 8))
        self.assertEqual(turned(LOG, ((PUT, PUT, PUT, READ), (READ,))), ((0, 1), 0))
        self.assertEqual(turned(BEHIND, (((0, 0),) * 3, ((0, 1),))), ((1,), 7))
        self.assertEqual(turned(ROUND, (((0, 0),), ((1, 0), (2, 0), (0, 0)) * 2)), ((2, 2, 2), 28))
        self.assertEqual(turned(ROOMS, (((0, 1),), ((0, 2), (1, 0), (0, 2)))), ((2, 1), 7))

    def test_many_houses(self):
        source = random.Random(8)
        for house in many_houses(8, 200):
            road = some_history(source, house, house[1], 5)
            start = led(house, house[1], road)
            for length in range(1, 6):
                turn = some_history(source, house, start, length)
                if is_ring(house, (road, turn)):
                    self.assertEqual(turned(house, (road, turn)), spent(house, start, turn))

    def test_ten_thousand_moves(self):
        self.assertEqual(turned(LOG, ((READ,) * 10000, (PUT, READ) * 5000)), ((5000, 5000), 25000))


class CallsTest(Case):
    def test_calls(self):
        for house, ring in ((LOG, ((PUT,), (READ, PUT) * 5000)), (LARGE, (((0, 0),) * 10000, ((0, 0),) * 10000))):
            self.assertTrue(self.check_calls(is_ring, [("house", house), ("value", ring)]))
            self.check_calls(turned, [("house", house), ("ring", ring)])
        for value in ([(), [[1, 0]]], {1: [2]}, ((), {0: [True]})):
            self.assertFalse(self.check_calls(is_ring, [("house", LOG), ("value", value)]))


if __name__ == "__main__":
    unittest.main()
