import copy
import itertools
import unittest

from paidahead.errors import InvalidHouse
from paidahead.houses import contents, require_house
from tests.samples import FULL, HOUSES, LOG, READ, PUT, WIDE

# What is neither a tuple, nor an integer, nor a string.
OTHERS = (None, True, False, [], {}, [1], {0: 1}, {"pay": 1})

PAY = ("pay", 1)
STAY = ((),)

# The cells of these steps are one of 3 values and one of 4.
SIZES = (3, 4)

RIGHT_PLAIN = (
    ("pay", 1), ("pay", 2), ("pay", 98), ("pay", 99),
    ("toll", 0, (0, 0, 0)), ("toll", 0, (99, 99, 99)), ("toll", 1, (0, 99, 50, 1)), ("toll", 1, (0, 0, 0, 99)),
    ("set", 0, 0), ("set", 0, 1), ("set", 0, 2), ("set", 1, 0), ("set", 1, 3),
    ("add", 0, 1), ("add", 0, 2), ("add", 1, 1), ("add", 1, 2), ("add", 1, 3),
    ("take", 0, 1), ("take", 0, 2), ("take", 1, 1), ("take", 1, 2), ("take", 1, 3),
    ("pour", 0, 1), ("pour", 1, 0),
)

RIGHT_ONLY = (
    ("only", 0, 0, 0), ("only", 0, 0, 2), ("only", 0, 1, 2), ("only", 0, 2, 2),
    ("only", 1, 0, 0), ("only", 1, 0, 3), ("only", 1, 1, 2), ("only", 1, 3, 3),
)

WRONG_PLAIN = (
    ("pay", 0), ("pay", 100), ("pay", -1), ("pay", 10 ** 29), ("pay",), ("pay", 1, 1), ("pay", 0, 1), ("pay", (1,)),
    ("toll", 0, (0, 0)), ("toll", 0, (0, 0, 0, 0)), ("toll", 0, ()),
    ("toll", 1, (0, 0, 0)), ("toll", 1, (0, 0, 0, 0, 0)),
    ("toll", 0, (-1, 0, 0)), ("toll", 0, (0, 100, 0)), ("toll", 0, (0, 0, 100)), ("toll", 0, (0, 0, -1)),
    ("toll", -1, (0, 0, 0, 0)), ("toll", 2, (0, 0, 0)), ("toll", 0, 0, 0, 0), ("toll", 0), ("toll", 0, 0),
    ("toll", 0, "000"), ("toll", 0, [0, 0, 0]), ("toll", 0, {0: 0, 1: 0, 2: 0}), ("toll", 0, (0, 0, 0), 0),
    ("set", 0, -1), ("set", 0, 3), ("set", 1, -1), ("set", 1, 4), ("set", -1, 0), ("set", 2, 0), ("set", 0),
    ("add", 0, 0), ("add", 0, 3), ("add", 0, -1), ("add", 1, 0), ("add", 1, 4), ("add", -1, 1), ("add", 2, 1),
    ("take", 0, 0), ("take", 0, 3), ("take", 0, -1), ("take", 1, 0), ("take", 1, 4), ("take", -1, 1), ("take", 2, 1),
    ("pour", 0, 0), ("pour", 1, 1), ("pour", 0, 2), ("pour", 2, 0), ("pour", -1, 0), ("pour", 0, -1), ("pour", 0),
    ("pour", 0, 1, 0), ("set", 0, 0, 0), ("add", 0, 1, 1), ("take", 0, 1, 1),
    (), ("",), ("nothing",), ("nothing", 1), ("nothing", 0, 1), ("Pay", 1), ("pay ", 1), ("ad", 0, 1), ("sets", 0, 1),
    (None, 1), (1, 0, 1), (("pay",), 1), (["add"], 0, 1), ({"add": 1}, 0, 1), ((), 0, 1), (("pay", 1),),
    (("pay", 1), ("pay", 1)), "pay", "add", ["pay", 1], ["add", 0, 1], {"pay": 1}, None, 1, True,
)

WRONG_SPANS = (
    (0, -1, 0), (0, 0, 3), (0, 3, 3), (0, 1, 0), (0, 2, 1), (0, 2, 0), (0, -1, 3),
    (1, -1, 0), (1, 0, 4), (1, 4, 4), (1, 3, 2), (1, 3, 0),
    (-1, 0, 0), (2, 0, 0), (3, 0, 0),
)

RIGHT_WHENS = tuple(("when",) + step[1:] + (PAY,) for step in RIGHT_ONLY)
WRONG_ONLY = tuple(("only",) + span for span in WRONG_SPANS) + (
    ("only", 0, 0), ("only", 0), ("only",), ("only", 0, 0, 0, 0), ("only", 0, 0, 0, PAY), ("only", (0, 0, 0)),
    ["only", 0, 0, 0], ("Only", 0, 0, 0),
)
WRONG_WHENS = tuple(("when",) + span + (PAY,) for span in WRONG_SPANS) + (
    ("when", 0, 0, 0), ("when", 0, 0, 0, PAY, PAY), ("when", 0, 0, 0, "pay", 1), ("when", 0, 0, PAY), ("when", PAY),
    ("when",), ["when", 0, 0, 0, PAY], ("When", 0, 0, 0, PAY), ("only", 0, 0, 0, PAY),
)


def when(step, cell=0, low=0, high=1):
    return ("when", cell, low, high, step)


def with_deeds(*deeds):
    return (SIZES, (0, 0), deeds)


def with_step(step):
    return with_deeds(((step,),))


def with_sizes(sizes, begin=(0,)):
    return (sizes, begin, (STAY,))


def spoiled_number(number):
    return (True, False, str(number), None, [number], (number,), {number: number}, (), "")


def spoiled_whole(value):
    """Values that stand for nothing where value, a part of a house, is due."""
    if isinstance(value, tuple):
        return (list(value), None, "tuple", True, 1, {0: value}, (value,) * 9)
    if isinstance(value, str):
        return (None, 0, True, [value], (value,), {value: 1}, value + value, value.upper(), "")
    return spoiled_number(value)


def spoiled(value, path=()):
    """Pairs (path, value): each value with one of its parts, at any depth, spoiled."""
    found = [(path, wrong) for wrong in spoiled_whole(value)]
    if isinstance(value, tuple):
        for index, part in enumerate(value):
            for deeper, wrong in spoiled(part, path + (index,)):
                found.append((deeper, value[:index] + (wrong,) + value[index + 1:]))
    return found


def part_of_path(path):
    """The part that InvalidHouse names where what is wrong is at this path."""
    if path in ((), (2,)):
        return None
    return (("sizes",), ("begin",), ("deed", path[1] if path[0] == 2 else None))[path[0]]


class HousesTest(unittest.TestCase):
    def accept(self, house):
        with self.subTest(house=house):
            before = copy.deepcopy(house)
            self.assertIs(require_house(house), house)
            self.assertEqual(house, before)

    def reject(self, value, part):
        with self.subTest(value=value):
            before = copy.deepcopy(value)
            with self.assertRaises(InvalidHouse) as caught:
                require_house(value)
            self.assertEqual(caught.exception.part, part)
            self.assertEqual(value, before)
            self.assertEqual(repr(value), repr(before))

    def reject_step(self, step):
        self.reject(with_step(step), ("deed", 0))


class WholeTest(HousesTest):
    def test_houses_are_returned(self):
        for house in HOUSES:
            self.accept(house)

    def test_value_by_name(self):
        self.assertIs(require_house(value=LOG), LOG)
        with self.assertRaises(InvalidHouse) as caught:
            require_house(value=None)
        self.assertIsNone(caught.exception.part)

    def test_no_triples(self):
        for value in OTHERS + (0, 3, 10 ** 29, "", "log", (), (LOG,), ((5,),), LOG[:2], LOG[1:], LOG + ((),), LOG + LOG):
            self.reject(value, None)
        for value in (list(LOG), {0: LOG[0], 1: LOG[1], 2: LOG[2]}, [LOG], (LOG, LOG)):
            self.reject(value, None)

    def test_the_third_part_is_a_tuple_of_1_to_3(self):
        for many in (1, 2, 3):
            self.accept(with_deeds(*[STAY] * many))
        for many in (0, 4, 5, 1000):
            self.reject(with_deeds(*[STAY] * many), None)
        for third in OTHERS + (0, 1, "", "abc", [PUT, READ], {0: PUT}):
            self.reject((LOG[0], LOG[1], third), None)

    def test_each_part_spoiled_at_each_depth(self):
        for house in HOUSES:
            for path, value in spoiled(house):
                self.reject(value, part_of_path(path))

    def test_deep_and_long_values(self):
        deep = ()
        for _ in range(38):
            deep = (deep,)
        self.reject(deep, None)
        self.reject((deep, (0,), (STAY,)), ("sizes",))
        self.reject(((2,), deep, (STAY,)), ("begin",))
        self.reject(with_step(deep), ("deed", 0))
        many = (2,) * 199000
        self.reject(many, None)
        self.reject((many, (0,), (STAY,)), ("sizes",))
        self.reject(((2,), many, (STAY,)), ("begin",))
        self.reject(((2,), (0,), (many,)), ("deed", 0))
        self.reject(((2,), (0,), ((many,),)), ("deed", 0))

    def test_whens_that_never_end(self):
        step = PAY
        for _ in range(30):
            step = when(step)
        self.reject_step(step)


class FirstWrongPartTest(HousesTest):
    WRONG_SIZES = ((), (1,), (5, 5), None, [2], (True,))
    WRONG_BEGINS = ((), (5,), (0, 0), None, [0], (True,), (-1,))
    WRONG_DEEDS = ((), None, ((PAY,),) * 4, [PUT], ((("pay", 0),),), ("pay", 1))

    def test_no_tuple_of_deeds_comes_before_wrong_sizes_and_begins(self):
        for sizes in self.WRONG_SIZES:
            for begin in self.WRONG_BEGINS:
                for third in ((), None, [PUT], (STAY,) * 4):
                    self.reject((sizes, begin, third), None)

    def test_no_triple_comes_first(self):
        self.reject(((1,), (5,)), None)
        self.reject(((1,), (5,), ((),), 0), None)
        self.reject([(1,), (5,), ((),)], None)

    def test_sizes_come_before_begin_and_deeds(self):
        for sizes in self.WRONG_SIZES:
            for begin in self.WRONG_BEGINS + ((0,),):
                for deed in self.WRONG_DEEDS + (PUT,):
                    self.reject((sizes, begin, (deed,)), ("sizes",))

    def test_begin_comes_before_deeds(self):
        for begin in self.WRONG_BEGINS:
            for deed in self.WRONG_DEEDS + (PUT,):
                self.reject(((5,), begin, (deed, deed)), ("begin",))

    def test_the_first_wrong_deed_is_named(self):
        for wrong in self.WRONG_DEEDS:
            for number in range(3):
                for later in (PUT, wrong):
                    deeds = (PUT,) * number + (wrong,) + (later,) * (2 - number)
                    self.reject(((5,), (0,), deeds), ("deed", number))


class SizesTest(HousesTest):
    def test_one_to_three_sizes_from_two_to_eight_of_a_product_of_at_most_24(self):
        for many in (1, 2, 3):
            for sizes in itertools.product(range(0, 11), repeat=many):
                product = 1
                for size in sizes:
                    product *= size
                house = with_sizes(sizes, (0,) * many)
                if all(2 <= size <= 8 for size in sizes) and product <= 24:
                    self.accept(house)
                else:
                    self.reject(house, ("sizes",))

    def test_the_bounds_in_numbers(self):
        for sizes in ((2,), (8,), (3, 8), (8, 3), (4, 6), (6, 4), (2, 3, 4), (4, 3, 2), (2, 2, 6), (6, 2, 2)):
            self.accept(with_sizes(sizes, (0,) * len(sizes)))
        for sizes in ((1,), (9,), (0,), (-2,), (24,), (25,), (5, 5), (2, 12), (1, 8), (3, 9), (3, 3, 3), (2, 2, 7),
                      (-2, -3), (2, -2), (1, 1, 24), (10 ** 29,)):
            self.reject(with_sizes(sizes, (0,) * len(sizes)), ("sizes",))

    def test_none_and_more_than_three(self):
        self.reject(with_sizes((), ()), ("sizes",))
        for many in (4, 5):
            self.reject(with_sizes((2,) * many, (0,) * many), ("sizes",))

    def test_no_sizes(self):
        for sizes in OTHERS + (2, "2", "", [2], [2, 3], {2: 2}, {0: 2}, ((2,),), ("2",), (None,), ([2],), (2, None)):
            self.reject(with_sizes(sizes), ("sizes",))
            self.reject(with_sizes(sizes, (0, 0)), ("sizes",))

    def test_true_is_no_size(self):
        for sizes in ((True,), (False,), (2, True), (True, 2)):
            self.reject(with_sizes(sizes, (0,) * len(sizes)), ("sizes",))


class BeginTest(HousesTest):
    def test_each_value_of_each_cell_and_beyond(self):
        for sizes in ((2,), (8,), (3, 4), (2, 3, 4)):
            for begin in itertools.product(range(-1, 10), repeat=len(sizes)):
                house = with_sizes(sizes, begin)
                if all(0 <= value < size for value, size in zip(begin, sizes)):
                    self.accept(house)
                else:
                    self.reject(house, ("begin",))

    def test_too_long_and_too_short(self):
        for sizes in ((2,), (3, 4), (2, 3, 4)):
            for many in range(6):
                if many != len(sizes):
                    self.reject(with_sizes(sizes, (0,) * many), ("begin",))

    def test_no_contents(self):
        for begin in OTHERS + (0, 1, "0", "00", [0, 0], {0: 0, 1: 0}, (0, None), ("0", 0), (0, "0"), ((0, 0),), ([0], 0)):
            self.reject(with_sizes((3, 4), begin), ("begin",))

    def test_true_and_false_are_no_values(self):
        for begin in ((True, 0), (0, True), (False, 0), (0, False), (True, False), (1, True)):
            self.reject(with_sizes((3, 4), begin), ("begin",))


class DeedsTest(HousesTest):
    def test_one_to_three_ways(self):
        for number in range(3):
            for many in range(6):
                deeds = (STAY,) * number + (((PAY,),) * many,) + (STAY,) * (2 - number)
                if 1 <= many <= 3:
                    self.accept(with_deeds(*deeds))
                else:
                    self.reject(with_deeds(*deeds), ("deed", number))

    def test_at_most_six_steps(self):
        for number in range(3):
            for many in range(10):
                deed = ((),) * number + ((PAY,) * many,) + ((),) * (2 - number)
                if many <= 6:
                    self.accept(with_deeds(deed))
                else:
                    self.reject(with_deeds(deed), ("deed", 0))

    def test_no_deeds(self):
        for deed in OTHERS + (1, "deed", [((),)], [()], {0: ()}, (PAY,), PAY, ((PAY,), None), ((PAY,), [PAY])):
            self.reject(with_deeds(deed), ("deed", 0))
            self.reject(with_deeds(STAY, deed), ("deed", 1))

    def test_no_ways(self):
        for way in OTHERS + (0, "way", "", [PAY], {0: PAY}, PAY, (PAY, None), (None,), (PAY, [PAY]), ((PAY,),)):
            for deed in ((way,), ((), way), ((), (), way)):
                self.reject(with_deeds(deed), ("deed", 0))

    def test_a_wrong_step_behind_right_ones(self):
        for number in range(6):
            steps = (PAY,) * number + (("pay", 0),) + (PAY,) * (5 - number)
            self.reject(with_deeds((steps,)), ("deed", 0))
            self.reject(with_deeds(((), (), steps)), ("deed", 0))


class StepsTest(HousesTest):
    def test_right_steps(self):
        for step in RIGHT_PLAIN + RIGHT_ONLY + RIGHT_WHENS:
            self.accept(with_step(step))

    def test_wrong_steps(self):
        for step in WRONG_PLAIN + WRONG_ONLY + WRONG_WHENS:
            self.reject_step(step)

    def test_the_bounds_of_each_number_by_the_size_of_its_cell(self):
        for size in range(2, 9):
            for number in range(-2, 12):
                for word, low in (("set", 0), ("add", 1), ("take", 1)):
                    house = ((size,), (0,), ((((word, 0, number),),),))
                    if low <= number < size:
                        self.accept(house)
                    else:
                        self.reject(house, ("deed", 0))
                toll = ((size,), (0,), (((("toll", 0, (0,) * number),),),))
                if number == size:
                    self.accept(toll)
                else:
                    self.reject(toll, ("deed", 0))

    def test_the_bounds_of_each_payment(self):
        for number in range(-2, 103):
            if 1 <= number <= 99:
                self.accept(with_step(("pay", number)))
            else:
                self.reject_step(("pay", number))
            for numbers in ((number, 0, 0), (0, number, 0), (0, 0, number)):
                if 0 <= number <= 99:
                    self.accept(with_step(("toll", 0, numbers)))
                else:
                    self.reject_step(("toll", 0, numbers))

    def test_the_bounds_of_low_and_high(self):
        for low in range(-1, 6):
            for high in range(-1, 6):
                for cell, size in enumerate(SIZES):
                    for step in (("only", cell, low, high), when(PAY, cell, low, high), when(when(PAY, cell, low, high))):
                        if 0 <= low <= high < size:
                            self.accept(with_step(step))
                        else:
                            self.reject_step(step)

    def test_pours_between_cells(self):
        for cells in ((2,), (2, 3), (2, 3, 4)):
            for source in range(-1, 5):
                for goal in range(-1, 5):
                    house = (cells, (0,) * len(cells), (((("pour", source, goal),),),))
                    if source != goal and source in range(len(cells)) and goal in range(len(cells)):
                        self.accept(house)
                    else:
                        self.reject(house, ("deed", 0))

    def test_parts_too_many_and_too_few(self):
        for step in RIGHT_PLAIN + RIGHT_ONLY + RIGHT_WHENS:
            for more in (0, 1, None, (), PAY):
                self.reject_step(step + (more,))
                self.reject_step(when(step + (more,)))
            for index in range(len(step)):
                self.reject_step(step[:index] + step[index + 1:])
                self.reject_step(when(step[:index] + step[index + 1:]))


class WhensTest(HousesTest):
    def test_any_step_but_an_only_in_a_when(self):
        for step in RIGHT_PLAIN + RIGHT_WHENS:
            self.accept(with_step(when(step)))
        for step in RIGHT_ONLY:
            self.reject_step(when(step))

    def test_neither_a_when_nor_an_only_in_a_when_in_a_when(self):
        for step in RIGHT_PLAIN:
            self.accept(with_step(when(when(step))))
        for step in RIGHT_ONLY + RIGHT_WHENS:
            self.reject_step(when(when(step)))

    def test_no_step_in_three_whens(self):
        for step in RIGHT_PLAIN + RIGHT_ONLY + RIGHT_WHENS:
            self.reject_step(when(when(when(step))))

    def test_wrong_steps_in_whens(self):
        for step in WRONG_PLAIN + WRONG_ONLY + WRONG_WHENS:
            self.reject_step(when(step))
            self.reject_step(when(when(step)))

    def test_a_wrong_outer_when(self):
        for span in WRONG_SPANS:
            self.reject_step(("when",) + span + (when(PAY),))


class ContentsTest(unittest.TestCase):
    def test_one_cell(self):
        self.assertEqual(contents(LOG), ((0,), (1,), (2,), (3,), (4,)))
        self.assertEqual(contents(with_sizes((2,))), ((0,), (1,)))

    def test_two_cells(self):
        self.assertEqual(contents(with_sizes((2, 3), (1, 1))), ((0, 0), (0, 1), (0, 2), (1, 0), (1, 1), (1, 2)))
        self.assertEqual(contents(with_sizes((3, 2), (0, 0))), ((0, 0), (0, 1), (1, 0), (1, 1), (2, 0), (2, 1)))

    def test_three_cells(self):
        self.assertEqual(
            contents(with_sizes((2, 3, 2), (0, 0, 0))),
            ((0, 0, 0), (0, 0, 1), (0, 1, 0), (0, 1, 1), (0, 2, 0), (0, 2, 1),
             (1, 0, 0), (1, 0, 1), (1, 1, 0), (1, 1, 1), (1, 2, 0), (1, 2, 1)))

    def test_each_once_and_ascending_for_all_sizes(self):
        for many in (1, 2, 3):
            for sizes in itertools.product(range(2, 9), repeat=many):
                with self.subTest(sizes=sizes):
                    found = contents(with_sizes(sizes, (0,) * many))
                    self.assertIsInstance(found, tuple)
                    self.assertEqual(found, tuple(itertools.product(*map(range, sizes))))

    def test_all_contents_whether_come_to_or_not(self):
        self.assertEqual(contents(((2,), (0,), (STAY,))), ((0,), (1,)))

    def test_house_by_name_and_unchanged(self):
        for house in (LOG, FULL, WIDE):
            before = copy.deepcopy(house)
            self.assertEqual(contents(house=house), contents(house))
            self.assertEqual(house, before)


if __name__ == "__main__":
    unittest.main()
