import copy
import unittest

from paidahead.houses import contents, require_house
from paidahead.moves import done, moves
from tests.samples import FULL, HOUSES, LOG, WIDE, with_steps


def when(cell, low, high, step):
    return ("when", cell, low, high, step)


class StepsCase(unittest.TestCase):
    def through(self, sizes, content, *steps):
        return done(require_house(with_steps(sizes, *steps)), content, (0, 0))

    def check(self, sizes, steps, expected):
        """expected has, for each content in ascending order, what done returns."""
        house = with_steps(sizes, *steps)
        self.assertEqual(len(expected), len(contents(house)))
        for content, told in zip(contents(house), expected):
            with self.subTest(steps=steps, content=content):
                self.assertEqual(self.through(sizes, content, *steps), told)

    def check_cell(self, size, steps, expected):
        """expected has, for each value of the only cell, (value, paid) or None."""
        self.check((size,), steps, [told and ((told[0],), told[1]) for told in expected])


class StepsTest(StepsCase):
    def test_pay(self):
        self.check_cell(3, [("pay", 1)], [(0, 1), (1, 1), (2, 1)])
        self.check_cell(3, [("pay", 99)], [(0, 99), (1, 99), (2, 99)])

    def test_toll(self):
        self.check_cell(4, [("toll", 0, (9, 0, 99, 5))], [(0, 9), (1, 0), (2, 99), (3, 5)])

    def test_set(self):
        self.check_cell(3, [("set", 0, 0)], [(0, 0)] * 3)
        self.check_cell(3, [("set", 0, 1)], [(1, 0)] * 3)
        self.check_cell(3, [("set", 0, 2)], [(2, 0)] * 3)

    def test_add(self):
        self.check_cell(4, [("add", 0, 1)], [(1, 0), (2, 0), (3, 0), None])
        self.check_cell(4, [("add", 0, 2)], [(2, 0), (3, 0), None, None])
        self.check_cell(4, [("add", 0, 3)], [(3, 0), None, None, None])

    def test_take(self):
        self.check_cell(4, [("take", 0, 1)], [None, (0, 0), (1, 0), (2, 0)])
        self.check_cell(4, [("take", 0, 2)], [None, None, (0, 0), (1, 0)])
        self.check_cell(4, [("take", 0, 3)], [None, None, None, (0, 0)])

    def test_only(self):
        self.check_cell(4, [("only", 0, 0, 0)], [(0, 0), None, None, None])
        self.check_cell(4, [("only", 0, 1, 2)], [None, (1, 0), (2, 0), None])
        self.check_cell(4, [("only", 0, 3, 3)], [None, None, None, (3, 0)])
        self.check_cell(4, [("only", 0, 0, 3)], [(0, 0), (1, 0), (2, 0), (3, 0)])

    def test_pour(self):
        self.check((2, 3), [("pour", 0, 1)], [
            ((0, 0), 0), ((0, 1), 0), ((0, 2), 0),
            ((0, 1), 0), ((0, 2), 0), None,
        ])
        self.check((2, 3), [("pour", 1, 0)], [
            ((0, 0), 0), ((1, 0), 0), None,
            ((1, 0), 0), None, None,
        ])

    def test_pour_among_three_cells(self):
        sizes = (2, 3, 4)
        for content, step, expected in (
            ((1, 2, 1), ("pour", 0, 2), ((0, 2, 2), 0)),
            ((1, 2, 1), ("pour", 1, 2), ((1, 0, 3), 0)),
            ((1, 2, 2), ("pour", 1, 2), None),
            ((1, 1, 1), ("pour", 2, 1), ((1, 2, 0), 0)),
            ((1, 0, 3), ("pour", 2, 1), None),
            ((1, 0, 1), ("pour", 2, 0), None),
            ((0, 2, 1), ("pour", 2, 0), ((1, 2, 0), 0)),
            ((0, 2, 3), ("pour", 0, 2), ((0, 2, 3), 0)),
        ):
            with self.subTest(content=content, step=step):
                self.assertEqual(self.through(sizes, content, step), expected)

    def test_steps_change_their_own_cell_by_its_own_size(self):
        sizes = (2, 3, 4)
        for content, step, expected in (
            ((1, 1, 1), ("set", 0, 0), ((0, 1, 1), 0)),
            ((1, 1, 1), ("set", 1, 2), ((1, 2, 1), 0)),
            ((1, 1, 1), ("set", 2, 3), ((1, 1, 3), 0)),
            ((1, 1, 1), ("add", 0, 1), None),
            ((1, 1, 1), ("add", 1, 1), ((1, 2, 1), 0)),
            ((1, 1, 1), ("add", 1, 2), None),
            ((1, 1, 1), ("add", 2, 2), ((1, 1, 3), 0)),
            ((1, 1, 1), ("take", 0, 1), ((0, 1, 1), 0)),
            ((1, 0, 3), ("take", 1, 1), None),
            ((1, 0, 3), ("take", 2, 3), ((1, 0, 0), 0)),
            ((1, 2, 3), ("toll", 0, (5, 6)), ((1, 2, 3), 6)),
            ((1, 2, 3), ("toll", 1, (5, 6, 7)), ((1, 2, 3), 7)),
            ((1, 0, 3), ("toll", 2, (5, 6, 7, 8)), ((1, 0, 3), 8)),
            ((1, 0, 3), ("only", 1, 1, 2), None),
            ((1, 0, 3), ("only", 2, 3, 3), ((1, 0, 3), 0)),
            ((1, 0, 3), when(1, 0, 0, ("add", 1, 1)), ((1, 1, 3), 0)),
            ((1, 0, 3), when(2, 3, 3, ("take", 0, 1)), ((0, 0, 3), 0)),
            ((1, 0, 3), when(0, 0, 0, ("pay", 5)), ((1, 0, 3), 0)),
        ):
            with self.subTest(content=content, step=step):
                self.assertEqual(self.through(sizes, content, step), expected)

    def test_when_does_its_step_or_nothing(self):
        self.check_cell(4, [when(0, 1, 2, ("pay", 5))], [(0, 0), (1, 5), (2, 5), (3, 0)])
        self.check_cell(4, [when(0, 0, 0, ("pay", 5))], [(0, 5), (1, 0), (2, 0), (3, 0)])
        self.check_cell(4, [when(0, 3, 3, ("pay", 5))], [(0, 0), (1, 0), (2, 0), (3, 5)])
        self.check_cell(4, [when(0, 1, 3, ("toll", 0, (9, 8, 7, 6)))], [(0, 0), (1, 8), (2, 7), (3, 6)])
        self.check_cell(4, [when(0, 0, 1, ("set", 0, 3))], [(3, 0), (3, 0), (2, 0), (3, 0)])

    def test_when_is_barred_where_its_step_is(self):
        self.check_cell(4, [when(0, 1, 2, ("add", 0, 2))], [(0, 0), (3, 0), None, (3, 0)])
        self.check_cell(4, [when(0, 0, 1, ("take", 0, 1))], [None, (0, 0), (2, 0), (3, 0)])
        self.check((2, 2), [when(1, 1, 1, ("pour", 0, 1))], [((0, 0), 0), ((0, 1), 0), ((1, 0), 0), None])

    def test_when_within_a_when(self):
        self.check_cell(4, [when(0, 1, 3, when(0, 0, 2, ("pay", 5)))], [(0, 0), (1, 5), (2, 5), (3, 0)])
        self.check_cell(4, [when(0, 0, 1, when(0, 2, 3, ("pay", 5)))], [(0, 0), (1, 0), (2, 0), (3, 0)])
        self.check_cell(4, [when(0, 2, 3, when(0, 3, 3, ("add", 0, 1)))], [(0, 0), (1, 0), (2, 0), None])
        self.check((2, 2), [when(0, 1, 1, when(1, 0, 0, ("add", 1, 1)))], [
            ((0, 0), 0), ((0, 1), 0), ((1, 1), 0), ((1, 1), 0),
        ])


class WaysTest(StepsCase):
    def test_a_way_without_steps(self):
        self.check_cell(3, [], [(0, 0), (1, 0), (2, 0)])
        self.check((2, 2), [], [((0, 0), 0), ((0, 1), 0), ((1, 0), 0), ((1, 1), 0)])

    def test_payments_are_added(self):
        self.check_cell(2, [("pay", 99)] * 6, [(0, 594), (1, 594)])
        self.check_cell(2, [("pay", 3), ("toll", 0, (10, 20)), ("toll", 0, (0, 1))], [(0, 13), (1, 24)])

    def test_toll_takes_the_value_at_its_moment(self):
        toll = ("toll", 0, (1, 10, 20))
        self.check_cell(3, [toll, ("add", 0, 1)], [(1, 1), (2, 10), None])
        self.check_cell(3, [("add", 0, 1), toll], [(1, 10), (2, 20), None])
        self.check_cell(3, [("take", 0, 1), toll], [None, (0, 1), (1, 10)])
        self.check_cell(3, [("set", 0, 2), toll], [(2, 20)] * 3)
        self.check_cell(3, [toll, ("set", 0, 1), toll], [(1, 11), (1, 20), (1, 30)])
        self.check((2, 2), [("pour", 0, 1), ("toll", 1, (3, 4)), ("toll", 0, (30, 40))], [
            ((0, 0), 33), ((0, 1), 34), ((0, 1), 34), None,
        ])

    def test_when_takes_the_value_at_its_moment(self):
        step = when(0, 1, 1, ("pay", 7))
        self.check_cell(3, [("set", 0, 1), step], [(1, 7)] * 3)
        self.check_cell(3, [step, ("set", 0, 2)], [(2, 0), (2, 7), (2, 0)])
        self.check_cell(3, [("set", 0, 2), step], [(2, 0)] * 3)
        self.check_cell(3, [when(0, 0, 0, ("add", 0, 1)), when(0, 1, 1, ("add", 0, 1))], [(2, 0), (2, 0), (2, 0)])
        self.check_cell(3, [("add", 0, 1), when(0, 1, 2, when(0, 2, 2, ("pay", 7)))], [(1, 0), (2, 7), None])

    def test_only_takes_the_value_at_its_moment(self):
        self.check_cell(3, [("set", 0, 1), ("only", 0, 1, 1)], [(1, 0)] * 3)
        self.check_cell(3, [("only", 0, 1, 1), ("set", 0, 0)], [None, (0, 0), None])
        self.check_cell(3, [("set", 0, 2), ("only", 0, 0, 1)], [None] * 3)
        self.check_cell(3, [("add", 0, 1), ("only", 0, 2, 2), ("pay", 1)], [None, (2, 1), None])

    def test_steps_before_one_that_bars(self):
        self.check_cell(3, [("pay", 5), ("add", 0, 1)], [(1, 5), (2, 5), None])
        self.check_cell(3, [("add", 0, 1), ("pay", 5), ("add", 0, 1)], [(2, 5), None, None])
        self.check_cell(3, [("set", 0, 0), ("pay", 5), ("take", 0, 1)], [None] * 3)
        self.check_cell(3, [("toll", 0, (1, 2, 3)), ("take", 0, 1), ("only", 0, 1, 2)], [None, None, (1, 3)])
        self.check_cell(3, [("pay", 9), when(0, 1, 1, ("add", 0, 2)), ("pay", 1)], [(0, 10), None, (2, 10)])

    def test_steps_behind_one_that_bars(self):
        self.check_cell(3, [("add", 0, 2), ("set", 0, 0), ("pay", 1)], [(0, 1), None, None])
        self.check_cell(3, [("take", 0, 1), ("add", 0, 1)], [None, (1, 0), (2, 0)])
        self.check_cell(3, [("add", 0, 1), ("take", 0, 1)], [(0, 0), (1, 0), None])

    def test_pours_there_and_back(self):
        self.check((2, 3), [("pour", 0, 1), ("pour", 1, 0)], [
            ((0, 0), 0), ((1, 0), 0), None,
            ((1, 0), 0), None, None,
        ])

    def test_six_steps(self):
        steps = [("add", 0, 1), ("toll", 0, (0, 5, 6)), ("only", 1, 0, 1), ("pour", 0, 1),
                 when(1, 2, 2, ("pay", 50)), ("take", 1, 1)]
        self.check((3, 3), steps, [
            ((0, 0), 5), ((0, 1), 55), None,
            ((0, 1), 56), None, None,
            None, None, None,
        ])


class DoneTest(unittest.TestCase):
    def test_each_deed_and_way(self):
        for content, move, expected in (
            ((2, 1), (0, 0), ((2, 1), 8)),
            ((0, 3), (0, 0), ((0, 3), 106)),
            ((2, 1), (0, 1), ((2, 1), 0)),
            ((0, 0), (0, 2), ((2, 0), 99)),
            ((2, 1), (0, 2), None),
            ((0, 3), (0, 2), None),
            ((2, 1), (1, 0), ((2, 0), 0)),
            ((2, 0), (1, 0), ((2, 0), 0)),
            ((1, 0), (1, 1), ((1, 0), 5)),
            ((1, 1), (1, 1), ((1, 1), 0)),
            ((0, 0), (1, 1), ((0, 0), 0)),
            ((2, 2), (2, 0), ((2, 2), 0)),
            ((2, 1), (2, 0), None),
            ((2, 3), (2, 0), None),
        ):
            with self.subTest(content=content, move=move):
                self.assertEqual(done(FULL, content, move), expected)

    def test_contents_that_are_not_come_to(self):
        stay = ((2,), (0,), (((("pay", 2),),),))
        self.assertEqual(done(stay, (1,), (0, 0)), ((1,), 2))

    def test_by_name(self):
        self.assertEqual(done(house=LOG, content=(1,), move=(0, 0)), ((2,), 1))
        self.assertEqual(done(move=(1, 0), content=(3,), house=LOG), ((0,), 7))
        self.assertEqual(moves(content=(4,), house=LOG), (((1, 0), (0,), 7),))

    def test_kinds_of_values(self):
        for house in HOUSES:
            for content in contents(house):
                for deed, ways in enumerate(house[2]):
                    for way in range(len(ways)):
                        told = done(house, content, (deed, way))
                        if told is not None:
                            self.assertIs(type(told), tuple)
                            self.assertIn(told[0], contents(house))
                            self.assertIs(type(told[1]), int)
                            self.assertEqual(len(told), 2)

    def test_arguments_stay_the_same(self):
        for house in HOUSES:
            before = copy.deepcopy(house)
            for content in contents(house):
                kept = copy.deepcopy(content)
                for move, _, _ in moves(house, content):
                    told = copy.deepcopy(move)
                    done(house, content, move)
                    self.assertEqual(move, told)
                self.assertEqual(content, kept)
            self.assertEqual(house, before)


class MovesTest(unittest.TestCase):
    def test_the_log(self):
        self.assertEqual(moves(LOG, (0,)), (((0, 0), (1,), 1), ((1, 0), (0,), 0)))
        self.assertEqual(moves(LOG, (3,)), (((0, 0), (4,), 1), ((1, 0), (0,), 7)))
        self.assertEqual(moves(LOG, (4,)), (((1, 0), (0,), 7),))

    def test_deeds_of_several_ways(self):
        self.assertEqual(moves(FULL, (2, 1)), (
            ((0, 0), (2, 1), 8), ((0, 1), (2, 1), 0),
            ((1, 0), (2, 0), 0), ((1, 1), (2, 1), 0),
        ))
        self.assertEqual(moves(FULL, (1, 0)), (
            ((0, 0), (1, 0), 7), ((0, 1), (1, 0), 0), ((0, 2), (2, 0), 99),
            ((1, 0), (1, 0), 0), ((1, 1), (1, 0), 5),
        ))
        self.assertEqual(moves(FULL, (0, 2)), (
            ((0, 0), (0, 2), 9), ((0, 1), (0, 2), 0),
            ((1, 0), (0, 1), 0), ((1, 1), (0, 2), 0),
            ((2, 0), (0, 2), 0),
        ))
        self.assertEqual(moves(WIDE, (1, 0, 3)), (((1, 0), (1, 1, 2), 0),))

    def test_no_move(self):
        house = ((2, 2), (0, 0), (((("only", 0, 1, 1),), (("take", 1, 1),)), ((("add", 0, 1), ("add", 0, 1)),)))
        self.assertEqual(moves(house, (0, 0)), ())
        self.assertEqual(moves(house, (0, 1)), (((0, 1), (0, 0), 0),))

    def test_all_nine_moves(self):
        house = ((2,), (0,), (((), (), ()),) * 3)
        self.assertEqual(
            moves(house, (1,)), tuple(((deed, way), (1,), 0) for deed in range(3) for way in range(3)))

    def test_just_those_that_are_not_barred_ascending(self):
        for house in HOUSES:
            for content in contents(house):
                with self.subTest(house=house, content=content):
                    found = moves(house, content)
                    self.assertIs(type(found), tuple)
                    expected = []
                    for deed, ways in enumerate(house[2]):
                        for way in range(len(ways)):
                            told = done(house, content, (deed, way))
                            if told is not None:
                                expected.append(((deed, way),) + told)
                    self.assertEqual(found, tuple(expected))


if __name__ == "__main__":
    unittest.main()
