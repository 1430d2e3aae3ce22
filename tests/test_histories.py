import random
import unittest

from paidahead.histories import come_to, road_to, walked
from paidahead.houses import contents
from tests.cases import Case
from tests.oracles import led, reached
from tests.samples import BEHIND, FULL, LARGE, LOG, NAMED, ROOMS, ROUND, SHUT, STUCK, WHEEL, many_houses, some_history

PUT, READ = (0, 0), (1, 0)


class WalkedTest(Case):
    def test_empty_history(self):
        for house in NAMED:
            for content in contents(house):
                self.assertEqual(walked(house, content, ()), (content, (0,) * len(house[2]), 0))

    def test_one_deed(self):
        self.assertEqual(walked(WHEEL, (0,), ((0, 0),)), ((1,), (1,), 1))
        self.assertEqual(walked(WHEEL, (0,), ((0, 0), (0, 0), (0, 1))), ((0,), (3,), 10))

    def test_two_deeds(self):
        self.assertEqual(walked(LOG, (0,), (PUT, PUT, READ)), ((0,), (2, 1), 8))
        self.assertEqual(walked(LOG, (0,), (READ, PUT, READ, READ, PUT)), ((1,), (2, 3), 6))

    def test_three_deeds(self):
        self.assertEqual(walked(ROUND, (0,), ((0, 0), (1, 0), (2, 0), (0, 0))), ((1,), (2, 1, 1), 16))
        self.assertEqual(walked(FULL, (2, 1), ((0, 0), (0, 1), (0, 0))), ((2, 1), (3, 0, 0), 16))

    def test_starts_that_are_not_begin(self):
        self.assertEqual(walked(LOG, (2,), (PUT, READ)), ((0,), (1, 1), 8))
        self.assertEqual(walked(LOG, (4,), (READ,)), ((0,), (0, 1), 7))
        # No history leads from begin to there.
        self.assertEqual(walked(STUCK, (1,), ((0, 0), (0, 0), (1, 0))), ((0,), (2, 1), 18))

    def test_barred_at_the_beginning(self):
        self.assertIsNone(walked(LOG, (4,), (PUT,)))
        self.assertIsNone(walked(LOG, (4,), (PUT, READ, PUT)))
        self.assertIsNone(walked(STUCK, (0,), ((0, 0), (1, 0))))

    def test_barred_amid(self):
        self.assertIsNone(walked(LOG, (3,), (PUT, PUT, READ)))
        self.assertIsNone(walked(ROUND, (0,), ((0, 0), (0, 0), (1, 0))))

    def test_barred_at_the_end(self):
        self.assertIsNone(walked(LOG, (0,), (PUT, PUT, PUT, PUT, PUT)))
        self.assertIsNone(walked(ROUND, (0,), ((0, 0), (1, 0), (1, 0))))

    def test_ten_thousand_moves(self):
        self.assertEqual(walked(LOG, (0,), (PUT, READ) * 5000), ((0,), (5000, 5000), 25000))
        self.assertEqual(walked(LOG, (0,), (READ,) * 9999 + (PUT,)), ((1,), (1, 9999), 1))
        self.assertIsNone(walked(LOG, (0,), (READ,) * 9995 + (PUT,) * 5))
        self.assertIsNone(walked(LOG, (4,), (PUT,) + (READ,) * 9999))
        self.assertEqual(walked(LOG, (0,), (READ,) * 10001), ((0,), (0, 10001), 0))

    def test_two_histories_joined(self):
        source = random.Random(6)
        for house in NAMED + tuple(many_houses(6, 40)):
            for content in contents(house):
                first = some_history(source, house, content, 7)
                middle, counts, paid = walked(house, content, first)
                second = some_history(source, house, middle, 8)
                end, more_counts, more_paid = walked(house, middle, second)
                both = tuple(a + b for a, b in zip(counts, more_counts))
                self.assertEqual(walked(house, content, first + second), (end, both, paid + more_paid))
                self.assertEqual(sum(both), len(first + second))


class ComeToTest(Case):
    def test_all(self):
        self.assertEqual(come_to(LOG), ((0,), (1,), (2,), (3,), (4,)))
        self.assertEqual(come_to(LARGE), contents(LARGE))

    def test_begin_alone(self):
        self.assertEqual(come_to(STUCK), ((0,),))
        self.assertEqual(come_to(SHUT), ((1,),))

    def test_contents_that_are_left_for_ever(self):
        self.assertEqual(come_to(ROOMS), ((0,), (1,), (2,)))
        self.assertEqual(come_to(BEHIND), ((0,), (1,), (2,), (3,)))
        down = ((8,), (5,), (((("take", 0, 2),),),))
        self.assertEqual(come_to(down), ((1,), (3,), (5,)))

    def test_many_houses(self):
        for house in NAMED + tuple(many_houses(1, 200)):
            self.assertEqual(come_to(house), tuple(reached(house, house[1])))


class RoadToTest(Case):
    def test_begin(self):
        for house in NAMED:
            self.assertEqual(road_to(house, house[1]), ())

    def test_only_ways(self):
        self.assertEqual(road_to(LOG, (2,)), (PUT, PUT))
        self.assertEqual(road_to(ROUND, (2,)), ((0, 0), (1, 0)))
        self.assertEqual(road_to(BEHIND, (3,)), ((0, 0), (0, 0), (0, 0)))
        self.assertEqual(road_to(((8,), (0,), (((("add", 0, 1),),),)), (7,)), ((0, 0),) * 7)

    def test_none(self):
        self.assertIsNone(road_to(STUCK, (1,)))
        self.assertIsNone(road_to(SHUT, (0,)))
        self.assertIsNone(road_to(SHUT, (3,)))

    def test_many_houses(self):
        for house in NAMED + tuple(many_houses(2, 200)):
            known = reached(house, house[1])
            for content in contents(house):
                road = road_to(house, content)
                if content not in known:
                    self.assertIsNone(road)
                else:
                    self.assertEqual(led(house, house[1], road), content)
                    self.assertLess(len(road), len(contents(house)))


class CallsTest(Case):
    def test_calls(self):
        for house in (LOG, LARGE):
            self.check_calls(come_to, [("house", house)])
            self.check_calls(walked, [("house", house), ("content", house[1]), ("history", ((0, 0), (1, 0)) * 5000)])
            for content in contents(house):
                self.check_calls(road_to, [("house", house), ("content", content)])


if __name__ == "__main__":
    unittest.main()
