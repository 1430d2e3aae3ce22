import random
import unittest

from paidahead.errors import NotHome, TooLong
from paidahead.home import comes_home, home_road, round_all, strays
from paidahead.houses import contents
from paidahead.plans import best_plan
from tests import oracles
from tests.cases import Case
from tests.samples import BEHIND, FREE, FULL, LARGE, LOG, NAMED, ROOMS, ROUND, SHUT, STUCK, WHEEL, many_houses
from tests.test_worths import houses_and_mixes, some_mix

PUT, READ = (0, 0), (1, 0)
BILLION = 1000000000

# Nothing leads from begin to 2 and 3; from 2 there is a way to begin, from 3 there is none.
ASIDE = ((4,), (0,), (((("only", 0, 0, 1), ("set", 0, 1)),), ((("only", 0, 1, 2), ("take", 0, 1)),)))


def splits(house, history, content, parts, limit):
    """Tell whether a history is ways of at most limit moves with rows of turns between: (start, row) for each part."""
    if not parts:
        return len(history) <= limit and oracles.led(house, content, history) == house[1]
    start, row = parts[0]
    for at in range(min(limit, len(history)) + 1):
        if content == start and history[at:at + len(row)] == row:
            if splits(house, history[at + len(row):], start, parts[1:], limit):
                return True
        if at < len(history):
            content = oracles.led(house, content, history[at:at + 1])
    return False


class StraysTest(Case):
    def check_strays(self, house, expected):
        self.assertEqual(strays(house), expected)
        self.assertIs(comes_home(house), expected == ())

    def test_none(self):
        for house in (LOG, WHEEL, ROUND, FREE, SHUT, STUCK, LARGE):
            self.check_strays(house, ())

    def test_rooms_that_are_not_left_any_more(self):
        self.check_strays(ROOMS, ((1,), (2,)))
        self.check_strays(BEHIND, ((1,), (2,), (3,)))
        self.check_strays(((2,), (0,), (((("set", 0, 1),),),)), ((1,),))
        self.check_strays(FULL, ((2, 0),))

    def test_contents_that_no_history_leads_to(self):
        self.check_strays(ASIDE, ())

    def test_many_houses(self):
        told = {True: 0, False: 0}
        for house in NAMED + tuple(many_houses(41, 200)):
            known = oracles.reached(house, house[1])
            expected = tuple(content for content in known if house[1] not in oracles.reached(house, content))
            self.check_strays(house, expected)
            told[expected == ()] += 1
        self.assertGreater(min(told.values()), 50)


class HomeRoadTest(Case):
    def test_known(self):
        self.assertEqual(home_road(LOG, (0,)), ())
        self.assertEqual(home_road(LOG, (3,)), (READ,))
        self.assertEqual(home_road(ROUND, (1,)), ((1, 0), (2, 0)))
        self.assertEqual(home_road(WHEEL, (1,)), ((0, 0), (0, 1)))

    def test_none(self):
        self.assertIsNone(home_road(ROOMS, (1,)))
        self.assertIsNone(home_road(BEHIND, (3,)))
        self.assertIsNone(home_road(FULL, (2, 0)))

    def test_contents_that_no_history_leads_to(self):
        self.assertEqual(home_road(ASIDE, (2,)), ((1, 0), (1, 0)))
        self.assertIsNone(home_road(ASIDE, (3,)))
        self.assertEqual(home_road(STUCK, (1,)), ((1, 0),))
        self.assertIsNone(home_road(SHUT, (3,)))

    def test_many_houses(self):
        aside = 0
        for house in NAMED + tuple(many_houses(42, 200)):
            known = oracles.reached(house, house[1])
            for content in contents(house):
                road = home_road(house, content)
                if house[1] in oracles.reached(house, content):
                    aside += content not in known
                    self.assertEqual(oracles.led(house, content, road), house[1])
                    self.assertLessEqual(len(road), 10000)
                else:
                    self.assertIsNone(road)
        self.assertGreater(aside, 50)


class RoundAllTest(Case):
    def check_round(self, house, plan, laps):
        history = round_all(house, plan, laps=laps)
        self.assertIs(type(history), tuple)
        self.assertEqual(oracles.led(house, house[1], history), house[1])
        self.assertLessEqual(len(history), 10000)
        parts = [(oracles.led(house, house[1], road), turn * (laps * times)) for times, road, turn in plan[1]]
        limit = 2 * len(contents(house)) - 1
        self.assertTrue(splits(house, history, house[1], parts, limit), (house, plan, laps, history))

    def test_no_parts(self):
        for house in (LOG, ROUND, FREE, LARGE, STUCK):
            for laps in (1, BILLION):
                self.check_round(house, (1, ()), laps)

    def test_one_part(self):
        for laps in (1, 2, 7, 500):
            self.check_round(LOG, (1, ((1, (), (PUT, READ)),)), laps)
            self.check_round(LOG, (9, ((3, (PUT, PUT), (READ, PUT, PUT)),)), laps)
            self.check_round(LOG, (1, ((2, (PUT,) * 4, (READ,) + (PUT,) * 4),)), laps)
            self.check_round(ROUND, (1, ((1, ((0, 0), (1, 0)), ((2, 0), (0, 0), (1, 0))),)), laps)

    def test_a_road_that_is_long(self):
        self.check_round(LOG, (1, ((2, (PUT, READ) * 4999 + (PUT, PUT), (READ, PUT, PUT)),)), 3)

    def test_more_parts(self):
        first, second, third = ((2, (PUT,) * 3, (PUT, READ, PUT, PUT, PUT)), (3, (), (READ,)), (1, (PUT,), (READ, PUT)))
        for parts in ((first, second), (second, first), (third, first, second), (first, third, first), (third,) * 6):
            for laps in (1, 2, 10):
                self.check_round(LOG, (4, parts), laps)

    def test_the_turns_are_gone_round_in_order(self):
        history = round_all(LOG, (1, ((2, (PUT,), (READ, PUT)), (1, (), (PUT, PUT, READ)))), laps=2)
        self.assertEqual(history, (PUT,) + (READ, PUT) * 4 + (READ,) + (PUT, PUT, READ) * 2)
        history = round_all(LOG, (1, ((1, (), (PUT, PUT, READ)), (2, (PUT,), (READ, PUT)))), laps=2)
        self.assertEqual(history, (PUT, PUT, READ) * 2 + (PUT,) + (READ, PUT) * 4 + (READ,))

    def test_best_plans(self):
        source = random.Random(43)
        checked = 0
        houses = houses_and_mixes(43, 300) + [(LARGE, some_mix(source, 3)) for _ in range(5)]
        for house, mix in houses:
            plan = best_plan(house, mix)
            if not comes_home(house):
                with self.assertRaises(NotHome):
                    round_all(house, plan, laps=1)
            elif sum(times * len(turn) for times, _, turn in plan[1]) <= 3000:
                checked += 1
                self.check_round(house, plan, 1)
                self.check_round(house, plan, 3)
        self.assertGreater(checked, 100)

    def test_not_home(self):
        for house in (ROOMS, BEHIND, FULL):
            for plan in ((1, ()), best_plan(house, (1,) * len(house[2]))):
                with self.assertRaises(NotHome):
                    round_all(house, plan, laps=1)

    def test_not_home_ahead_of_too_long(self):
        with self.assertRaises(NotHome):
            round_all(BEHIND, (1, ((BILLION, ((0, 0),) * 3, ((0, 1),)),)), laps=BILLION)

    def check_too_long(self, house, parts, laps):
        with self.assertRaises(TooLong) as caught:
            round_all(house, (1, parts), laps=laps)
        self.assertEqual(caught.exception.limit, 9000)

    def test_too_long(self):
        read, put_and_read = ((), (READ,)), ((), (PUT, READ))
        self.check_round(LOG, (1, ((9000,) + read,)), 1)
        self.check_round(LOG, (1, ((1,) + read,)), 9000)
        self.check_round(LOG, (1, ((90,) + read,)), 100)
        self.check_round(LOG, (1, ((2500,) + put_and_read, (4000,) + read)), 1)
        self.check_round(LOG, (1, ((1, (PUT,), (READ, PUT) * 2000), (4999,) + read, (1, (), (READ,)))), 1)
        self.check_too_long(LOG, ((9001,) + read,), 1)
        self.check_too_long(LOG, ((1,) + read,), 9001)
        self.check_too_long(LOG, ((2500,) + put_and_read, (4001,) + read), 1)
        self.check_too_long(LOG, ((1, (PUT,), (READ, PUT) * 2000), (5000,) + read, (1, (), (READ,))), 1)
        self.check_too_long(LOG, ((1, (), (READ,) * 10000),), 1)

    def test_too_long_by_far(self):
        self.check_too_long(LOG, ((1, (), (READ,)),), BILLION)
        self.check_too_long(LOG, ((BILLION, (), (READ,)),), 1)
        self.check_too_long(LOG, ((BILLION, (), (PUT, READ) * 5000),) * 6, BILLION)

    def test_roads_do_not_make_it_too_long(self):
        self.check_round(LOG, (1, ((1500, (READ,) * 9999 + (PUT,), (READ, PUT)),) * 3), 1)


class CallsTest(Case):
    def test_calls(self):
        plans = {LOG: (1, ((1, (PUT,), (READ, PUT)), (2, (), (READ,)))), LARGE: best_plan(LARGE, (3, 2, 5))}
        for house in (LOG, LARGE):
            self.check_calls(strays, [("house", house)])
            self.check_calls(comes_home, [("house", house)])
            self.check_calls(round_all, [("house", house), ("plan", plans[house])], [("laps", 100)])
            for content in contents(house):
                self.check_calls(home_road, [("house", house), ("content", content)])


if __name__ == "__main__":
    unittest.main()
