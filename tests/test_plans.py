import unittest

from paidahead.plans import best_plan, is_within, plan_pays
from paidahead.rings import is_ring
from paidahead.tariffs import is_fair, require_tariff
from paidahead.worths import best_tariff, worth
from tests import oracles
from tests.cases import Case
from tests.samples import BEHIND, FREE, LARGE, LOG, ROOMS, ROUND, SHUT, STUCK, WHEEL, many_houses
from tests.test_worths import houses_and_mixes, priced

PUT, READ = (0, 0), (1, 0)
SHORT = ((), (PUT, READ))
LONG = ((), (PUT, PUT, READ))
BILLION = 1000000000


class PlanCase(Case):
    def check_plan(self, house, mix, plan):
        """plan is of the form, within the mix, and pays the worth, counted in the plain way."""
        lots, parts = plan
        self.assertIs(type(plan), tuple)
        self.assertIs(type(parts), tuple)
        self.assertIn(lots, range(1, BILLION + 1))
        self.assertLessEqual(len(parts), len(house[2]))
        used, total = [0] * len(mix), 0
        for times, road, turn in parts:
            self.assertIn(times, range(1, BILLION + 1))
            self.assertTrue(is_ring(house, (road, turn)))
            start = oracles.led(house, house[1], road)
            self.assertNotEqual(turn, ())
            self.assertEqual(oracles.led(house, start, turn), start)
            counts, paid = oracles.spent(house, start, turn)
            used = [number + times * count for number, count in zip(used, counts)]
            total += times * paid
        for number, most in zip(used, mix):
            self.assertLessEqual(number, lots * most)
        self.assertEqual(oracles.lowest(total, lots), worth(house, mix))
        self.assertEqual(plan_pays(house, plan), worth(house, mix))
        self.assertIs(is_within(house, plan, mix), True)


class BestPlanTest(PlanCase):
    def test_known(self):
        self.assertEqual(best_plan(ROUND, (5, 9, 7)), (1, ((5, (), ((0, 0), (1, 0), (2, 0))),)))
        self.assertEqual(best_plan(WHEEL, (1,)), (3, ((1, (), ((0, 0), (0, 0), (0, 1))),)))
        self.assertEqual(best_plan(BEHIND, (4,)), (1, ((4, ((0, 0),) * 3, ((0, 1),)),)))
        self.assertEqual(best_plan(SHUT, (4,)), (1, ((4, (), ((0, 0),)),)))

    def test_nothing_where_the_worth_is_0(self):
        none = 0
        for house, mix in houses_and_mixes(31, 300) + [(FREE, (1, 1)), (STUCK, (9, 100)), (LOG, (0, 1)), (LOG, (1, 0))]:
            none += worth(house, mix) == (0, 1)
            self.assertEqual(best_plan(house, mix) == (1, ()), worth(house, mix) == (0, 1))
        self.assertGreater(none, 20)

    def test_a_part_in_each_room(self):
        lots, parts = best_plan(ROOMS, (3, 2))
        self.assertEqual(sorted(oracles.led(ROOMS, (0,), road) for _, road, _ in parts), [(1,), (2,)])
        self.check_plan(ROOMS, (3, 2), (lots, parts))

    def test_many_houses_and_mixes(self):
        parts = [0, 0, 0, 0]
        for house, mix in houses_and_mixes(32, 600):
            plan = best_plan(house, mix)
            self.check_plan(house, mix, plan)
            parts[len(plan[1])] += 1
        self.assertGreater(min(parts), 4, parts)

    def test_the_largest_house(self):
        for mix in ((3, 2, 5), (1, 1, 1), (100, 99, 98), (0, 1, 7), (1, 0, 0), (0, 100, 0), (0, 0, 1)):
            plan = best_plan(LARGE, mix)
            self.check_plan(LARGE, mix, plan)

    def test_tariff_and_plan_prove_each_other(self):
        wide = many_houses(34, 40, ((2, 3, 4), (8, 3), (4, 6)))
        pairs = houses_and_mixes(33, 300) + [(LARGE, (3, 2, 5)), (LARGE, (7, 0, 1))]
        for house, mix in pairs + [(house, (1, 4, 9)[:len(house[2])]) for house in wide]:
            tariff, plan = best_tariff(house, mix), best_plan(house, mix)
            self.assertIs(require_tariff(house, tariff), tariff)
            self.assertTrue(is_fair(house, tariff))
            self.assertEqual(priced(tariff, mix), plan_pays(house, plan))
            self.check_plan(house, mix, plan)


class PlanPaysTest(Case):
    def test_no_parts(self):
        for lots in (1, 7, BILLION):
            self.assertEqual(plan_pays(LOG, (lots, ())), (0, 1))

    def test_parts(self):
        self.assertEqual(plan_pays(LOG, (1, ((1,) + SHORT, (1,) + LONG))), (13, 1))
        self.assertEqual(plan_pays(LOG, (1, ((3,) + SHORT, (2,) + LONG))), (31, 1))
        self.assertEqual(plan_pays(LOG, (2, ((3,) + SHORT, (2,) + LONG))), (31, 2))
        self.assertEqual(plan_pays(LOG, (6, ((4,) + SHORT,))), (10, 3))
        self.assertEqual(plan_pays(LOG, (5, ((1, (), (READ,)),))), (0, 1))
        # The road is not paid for.
        self.assertEqual(plan_pays(BEHIND, (1, ((2, ((0, 0),) * 3, ((0, 1),)),))), (14, 1))

    def test_equal_parts(self):
        self.assertEqual(plan_pays(LOG, (1, ((1,) + LONG,) * 6)), (48, 1))
        self.assertEqual(plan_pays(LOG, (6, ((1,) + LONG,) * 6)), (8, 1))

    def test_lots_and_times_at_their_bounds(self):
        self.assertEqual(plan_pays(LOG, (1, ((BILLION,) + LONG,) * 6)), (48 * BILLION, 1))
        self.assertEqual(plan_pays(LOG, (BILLION, ((BILLION,) + LONG,) * 6)), (48, 1))
        self.assertEqual(plan_pays(LOG, (BILLION, ((1,) + LONG,))), (1, BILLION // 8))
        self.assertEqual(plan_pays(SHUT, (BILLION, ((999999999, (), ((0, 0),)),))), (999999999, BILLION // 2))


class IsWithinTest(Case):
    def test_no_parts(self):
        for mix in ((1, 0), (0, 1), (100, 100)):
            self.assertIs(is_within(LOG, (1, ()), mix), True)
            self.assertIs(is_within(LOG, (BILLION, ()), mix), True)

    def test_just_within_and_just_beyond(self):
        both = (1, ((1,) + SHORT, (1,) + LONG))
        self.assertIs(is_within(LOG, both, (3, 2)), True)
        self.assertIs(is_within(LOG, both, (4, 2)), True)
        self.assertIs(is_within(LOG, both, (3, 3)), True)
        self.assertIs(is_within(LOG, both, (3, 1)), False)
        self.assertIs(is_within(LOG, both, (2, 2)), False)
        self.assertIs(is_within(LOG, both, (100, 0)), False)
        self.assertIs(is_within(LOG, both, (0, 100)), False)

    def test_lots(self):
        both = ((1,) + SHORT, (1,) + LONG)
        self.assertIs(is_within(LOG, (2, both), (2, 1)), True)
        self.assertIs(is_within(LOG, (2, both), (1, 1)), False)
        self.assertIs(is_within(LOG, (3, both), (1, 1)), True)

    def test_equal_parts(self):
        self.assertIs(is_within(ROUND, (1, ((1, (), ((0, 0), (1, 0), (2, 0))),) * 6), (6, 6, 6)), True)
        for mix in ((5, 6, 6), (6, 5, 6), (6, 6, 5)):
            self.assertIs(is_within(ROUND, (1, ((1, (), ((0, 0), (1, 0), (2, 0))),) * 6), mix), False)

    def test_lots_and_times_at_their_bounds(self):
        many = (BILLION, ((BILLION,) + LONG,))
        self.assertIs(is_within(LOG, many, (2, 1)), True)
        self.assertIs(is_within(LOG, many, (1, 1)), False)
        self.assertIs(is_within(LOG, (BILLION, ((BILLION,) + LONG, (1, (), (READ,)))), (2, 1)), False)
        self.assertIs(is_within(LOG, (BILLION - 1, ((BILLION,) + LONG,)), (2, 1)), False)
        self.assertIs(is_within(LOG, (1, ((BILLION,) + LONG,)), (100, 100)), False)

    def test_roads_do_not_count(self):
        self.assertIs(is_within(LOG, (1, ((1, (PUT,) * 4, (READ, PUT, PUT, PUT, PUT)),)), (4, 1)), True)
        self.assertIs(is_within(LOG, (1, ((1, (PUT,) * 4, (READ, PUT, PUT, PUT, PUT)),)), (3, 1)), False)


class CallsTest(Case):
    def test_calls(self):
        for house, mix in ((LOG, (3, 2)), (LARGE, (3, 2, 5)), (LARGE, (0, 0, 1)), (WHEEL, (100,))):
            plan = self.check_calls(best_plan, [("house", house), ("mix", mix)])
            self.check_calls(plan_pays, [("house", house), ("plan", plan)])
            self.check_calls(is_within, [("house", house), ("plan", plan), ("mix", mix)])
        long = (7, ((3, (PUT, READ) * 5000, (PUT, READ) * 5000),) * 6)
        self.assertEqual(self.check_calls(plan_pays, [("house", LOG), ("plan", long)]), (450000, 7))
        self.assertTrue(self.check_calls(is_within, [("house", LOG), ("plan", (1000, long[1])), ("mix", (90, 90))]))


if __name__ == "__main__":
    unittest.main()
