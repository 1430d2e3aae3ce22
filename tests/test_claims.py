import random
import unittest

from paidahead.checker import first_fault
from paidahead.claims import decide, require_claim
from paidahead.errors import InvalidClaim
from paidahead.fronts import front
from paidahead.mosts import most
from paidahead.pairs import excess
from paidahead.worths import best_tariff, worth
from tests.cases import ANY, Case, replacements
from tests.samples import BEHIND, COUNTER, FIVE, FREE, LARGE, LARGE_PAIRS, LOG, NAMED, ROOMS, ROUND, SHUT, STUCK, WHEEL
from tests.samples import guarded_houses, log_with, many_houses, only_ways, rich_houses
from tests.test_fronts import two_deeds
from tests.test_mosts import FULL_LIMITS, some_limits
from tests.test_pairs import ONE, TWO, beside, round_in_15, round_in_23
from tests.test_tariffs import lowest_terms
from tests.test_together import need_of_begin
from tests.test_worths import some_mix
from tests.verdicts import is_true, is_valid

BILLION = 10 ** 9
TRILLION = 10 ** 12

# One claim of each word about LOG, true and false ones.
RIGHT = (
    ("fair", ((3, 2), 1)), ("fair", ((5, 3), 2)), ("need", ((3, 2), 1), 0), ("worth", (3, 2), 13, 1),
    ("worth", (1, 0), 7, 3), ("front", (((0, 11), 1), ((1, 7), 1), ((7, 0), 2))), ("most", (4, 1), 11),
    ("within", only_ways(ROOMS), 5), ("wins", ROOMS),
)


class ClaimCase(Case):
    def check_valid(self, house, claim):
        self.assertIsNone(require_claim(house, claim))
        certificate = decide(house, claim)
        self.assertIs(type(certificate), tuple)
        word, told, _ = certificate
        self.assertIn(word, ("shown", "broken"))
        self.assertEqual(told, claim)
        self.assertIsNone(first_fault(house, certificate), (house, certificate))
        return certificate

    def check_invalid(self, house, claim):
        for function in (require_claim, decide):
            with self.assertRaises(InvalidClaim):
                function(house, claim)

    def check_decided(self, house, claim, expected=None):
        """The word is "shown" exactly if the claim is true; expected is a word of a broken one, or None."""
        word, _, content = self.check_valid(house, claim)
        self.assertEqual(word == "shown", is_true(house, claim), (house, claim))
        if expected is not None:
            self.assertEqual((word, content[0]), ("broken", expected))
        return word


class RequireClaimTest(ClaimCase):
    def test_right_ones(self):
        for claim in RIGHT:
            self.check_valid(LOG, claim)

    def test_one_part_that_is_wrong(self):
        for claim in RIGHT:
            valid = 0
            for value in replacements(claim):
                if is_valid(LOG, value):
                    valid += 1
                    self.assertIsNone(require_claim(LOG, value))
                else:
                    self.check_invalid(LOG, value)
            self.assertGreater(valid, 0)

    def test_any_values(self):
        for house in NAMED:
            for value in ANY:
                self.check_invalid(house, value)
                for word in ("fair", "need", "worth", "front", "most", "within", "wins"):
                    for claim in ((word,), (word, value), (word, value, 1), (word, value, 1, 1), [word, value]):
                        if is_valid(house, claim):
                            self.assertIsNone(require_claim(house, claim))
                        else:
                            self.check_invalid(house, claim)

    def test_words(self):
        for word in ("", "Fair", "fair ", "fairs", "shown", None, True, 0, ("fair",), ["fair"], {"fair": 1}, b"fair"):
            self.check_invalid(LOG, (word, ((3, 2), 1)))
        self.check_invalid(LOG, "fair")
        self.check_invalid(LOG, ["fair", ((3, 2), 1)])
        self.check_invalid(LOG, {"fair": ((3, 2), 1)})

    def test_how_many_parts(self):
        for claim in RIGHT:
            self.check_invalid(LOG, claim + (1,))
            self.check_invalid(LOG, claim + (None,))
            for many in range(len(claim)):
                self.check_invalid(LOG, claim[:many])
            for word in ("fair", "need", "worth", "front", "most", "within", "wins"):
                if word != claim[0]:
                    self.check_invalid(LOG, (word,) + claim[1:])

    def test_fair_and_need(self):
        for tariff in (((0, 0), 1), ((BILLION, BILLION), 1), ((BILLION, 0), 999999), ((1, 0), 1000000)):
            self.check_valid(LOG, ("fair", tariff))
            for number in (0, 1, TRILLION - 1, TRILLION):
                self.check_valid(LOG, ("need", tariff, number))
            for number in (-1, TRILLION + 1, None, True, "0", (0,), [0]):
                self.check_invalid(LOG, ("need", tariff, number))
        for tariff in (
            ((2, 4), 2), ((0, 0), 2), ((-1, 0), 1), ((BILLION + 1, 0), 1), ((1, 0), 0), ((1, 0), 1000001), ((1,), 1),
            ((1, 0, 0), 1), ((True, 0), 1), ((1, 0), True), [(1, 0), 1], ([1, 0], 1), ((1, 0),), None, ((0, 0), 1, 1),
        ):
            self.check_invalid(LOG, ("fair", tariff))
            self.check_invalid(LOG, ("need", tariff, 0))
        self.check_invalid(ROUND, ("fair", ((3, 2), 1)))
        self.check_invalid(WHEEL, ("need", ((3, 2), 1), 0))

    def test_worth(self):
        for mix in ((0, 1), (1, 0), (100, 100), (0, 100), (99, 1)):
            self.check_valid(LOG, ("worth", mix, 7, 3))
        for mix in (
            (0, 0), (101, 0), (0, 101), (-1, 1), (1, -1), (1,), (1, 1, 1), (), (True, 1), (1, False), [1, 1], None, 1,
            (1, None), ("1", 1),
        ):
            self.check_invalid(LOG, ("worth", mix, 7, 3))
        for p, q in (
            (0, 1), (1, 1), (TRILLION, 1), (TRILLION - 1, 1000000), (1, 1000000), (999999, 1000000), (TRILLION, 999999),
        ):
            self.check_valid(LOG, ("worth", (3, 2), p, q))
        for p, q in (
            (0, 2), (2, 2), (26, 2), (-1, 1), (1, 0), (0, 0), (1, -1), (TRILLION + 1, 1), (1, 1000001), (13, True),
            (True, 1), (13, None), (None, 1), ("13", 1), (13, (1,)), (TRILLION, 1000000), (3, 999999),
        ):
            self.check_invalid(LOG, ("worth", (3, 2), p, q))
        self.check_invalid(ROUND, ("worth", (3, 2), 13, 1))
        self.check_invalid(WHEEL, ("worth", (3, 2), 13, 1))

    def test_front(self):
        right = front(LOG)
        for corners in (right, right[:1], right[1:], right[::2], (((0, 0), 1),), (((BILLION, BILLION), 1),)):
            self.check_valid(LOG, ("front", corners))
        for corners in (
            (), right[::-1], right + right[-1:], right[:1] * 2, right[:2] + right[1:], (right[0], right[2], right[1]),
            list(right), None, 5, right[0], (right,), right + (None,), right + (((6, 0), 1),), right + (((6, 1), 1),),
            (((0, 22), 2),) + right[1:], (((0, 11), 1), ((0, 7), 1)), (((0, 11), 1), ((1, 11), 1)),
            (((0, 11), 1), ((1, 12), 1)), (((1, 11), 1), ((0, 7), 1)), (((0, True), 1),), ([(0, 11), 1],),
            (((0, 11), 1), ((1, 7), 1), [(2, 4), 1]), (((0,), 1),), (((0, 1, 1), 1),),
        ):
            self.check_invalid(LOG, ("front", corners))
        for house in (WHEEL, ROUND, LARGE):
            self.check_invalid(house, ("front", right))
            self.check_invalid(house, ("front", (((1,) * len(house[2]), 1),)))

    def test_front_that_does_not_bend(self):
        first, last = ((0, 10), 1), ((10, 0), 1)
        self.check_valid(LOG, ("front", (first, ((4, 5), 1), last)))
        self.check_valid(LOG, ("front", (first, ((4999, 4999), 1000), last)))
        for middle in (((5, 5), 1), ((6, 4), 1), ((5, 6), 1), ((4, 7), 1), ((5001, 5000), 1000), ((9, 9), 1)):
            self.check_invalid(LOG, ("front", (first, middle, last)))
        # The last of these four is on one line with the two before it, then a little below that line.
        three = (first, ((1, 5), 1), ((2, 3), 1))
        self.check_invalid(LOG, ("front", three + (((3, 1), 1),)))
        self.check_invalid(LOG, ("front", three + (((2999, 1000), 1000),)))
        self.check_valid(LOG, ("front", three + (((3001, 1000), 1000),)))

    def test_how_many_corners(self):
        many = tuple(((k, (200 - k) * (200 - k)), 1) for k in range(181))
        self.check_valid(LOG, ("front", many[:180]))
        self.check_valid(LOG, ("front", many[1:]))
        self.check_invalid(LOG, ("front", many))
        self.check_invalid(LOG, ("front", many * 1000))

    def test_corners_compare_as_quotients(self):
        self.check_valid(LOG, ("front", (((1, 3), 3), ((1, 1), 2))))
        self.check_valid(LOG, ("front", (((7, 8), 2), ((4, 3), 1))))
        self.check_invalid(LOG, ("front", (((1, 3), 2), ((1, 1), 3))))
        self.check_invalid(LOG, ("front", (((1, 1), 3), ((1, 1), 2))))

    def test_most(self):
        for house in (WHEEL, LOG, ROUND):
            many = len(house[2])
            for limits in FULL_LIMITS[many] + ((0,) * many, (1,) * many):
                for number in (0, 1, BILLION - 1, BILLION):
                    self.check_valid(house, ("most", limits, number))
                for number in (-1, BILLION + 1, None, True, False, "1", (1,)):
                    self.check_invalid(house, ("most", limits, number))
        for limits in (
            (200, 0), (0, 200), (1, 100), (13, 14), (10 ** 29, 0), (-1, 0), (0, -1), (-2, -2), (1,), (1, 1, 1), (),
            (True, 1), (1, None), [4, 1], None, 4, "41", (4, "1"), (-1, 10 ** 29),
        ):
            self.check_invalid(LOG, ("most", limits, 11))
        self.check_invalid(ROUND, ("most", (4, 4, 8), 11))
        self.check_invalid(ROUND, ("most", (5, 5, 5), 11))

    def test_within(self):
        for number in (0, 1, 999999, 1000000):
            self.check_valid(LOG, ("within", LOG, number))
        for number in (-1, 1000001, None, True, "0", (0,), [0]):
            self.check_invalid(LOG, ("within", LOG, number))
        for other in (
            WHEEL, only_ways(WHEEL), ROUND, LARGE, only_ways(LARGE), ROOMS, (LOG,), None, list(LOG), LOG[:2], LOG[0],
            LOG + (0,), ((5,), (5,), LOG[2]), ((5,), (0,), LOG[2] + LOG[2][:1]), ((9,), (0,), LOG[2]), "LOG",
            ((5,), (0,), (LOG[2][0], LOG[2][1] * 2)), ((5,), (0,), (LOG[2][0] + ((),), LOG[2][1])),
        ):
            self.check_invalid(LOG, ("within", other, 0))
        # The house itself may have several ways.
        self.check_valid(ROOMS, ("within", LOG, 0))
        self.check_valid(LARGE, ("within", only_ways(LARGE), 0))
        self.check_valid(WHEEL, ("within", only_ways(WHEEL), 0))

    def test_wins(self):
        for other in (LOG, ROOMS, FIVE, FREE, COUNTER):
            self.check_valid(LOG, ("wins", other))
        for other in (
            WHEEL, ROUND, LARGE, (LOG,), None, list(LOG), LOG[:2], LOG + (0,), ((5,), (5,), LOG[2]), "LOG", 2,
            ((5,), (0,), LOG[2][:1]), ((5,), (0,), LOG[2] + LOG[2][:1]), ((5,), (0,), list(LOG[2])),
        ):
            self.check_invalid(LOG, ("wins", other))
        for house in (WHEEL, ROUND, LARGE):
            self.check_invalid(house, ("wins", house))
            self.check_invalid(house, ("wins", LOG))


class DecideTest(ClaimCase):
    def test_fair(self):
        source = random.Random(101)
        for house in NAMED + tuple(many_houses(101, 60)) + tuple(guarded_houses(101, 60)):
            (first, *others), q = best_tariff(house, some_mix(source, len(house[2])))
            for more in (-1, 0, 1):
                tariff = lowest_terms((max(0, first + more),) + tuple(others), q)
                self.check_decided(house, ("fair", tariff))
                self.check_decided(house, ("need", tariff, 0))

    def test_need(self):
        source = random.Random(102)
        told = {"shown": 0, "less": 0, "more": 0}
        for house in NAMED + tuple(many_houses(102, 100)):
            tariff = best_tariff(house, some_mix(source, len(house[2])))
            need = need_of_begin(house, tariff)
            self.assertEqual(self.check_decided(house, ("need", tariff, need)), "shown")
            self.check_decided(house, ("need", tariff, need + 1), "less")
            self.check_decided(house, ("need", tariff, TRILLION), "less")
            if need > 0:
                self.check_decided(house, ("need", tariff, need - 1), "more")
                self.check_decided(house, ("need", tariff, 0), "more")
                told["more"] += 1
        self.assertGreater(told["more"], 20)
        for number in (0, 1, TRILLION):
            self.check_decided(LOG, ("need", ((1, 1), 1), number), "endless")
        self.check_decided(BEHIND, ("need", ((7,), 1), 129))
        self.check_decided(BEHIND, ("need", ((7,), 1), 128), "more")

    def test_needs_of_large_numbers(self):
        # The prices are a little above what the rings ask for, in parts of a million.
        tariff = (3000001, 2000000), 1000000
        self.check_decided(LOG, ("need", tariff, 0))
        self.check_decided(BEHIND, ("need", ((7000001,), 1000000), 3 * 42999999))
        self.check_decided(BEHIND, ("need", ((7000001,), 1000000), 3 * 42999999 - 1), "more")

    def test_worth(self):
        source = random.Random(103)
        for house in NAMED + tuple(many_houses(103, 60)) + tuple(guarded_houses(103, 100)):
            mix = some_mix(source, len(house[2]))
            p, q = worth(house, mix)
            self.assertEqual(self.check_decided(house, ("worth", mix, p, q)), "shown")
            self.check_decided(house, ("worth", mix, p + q, q), "less")
            self.check_decided(house, ("worth", mix, p // q + 1, 1), "less")
            if q == 1:
                self.check_decided(house, ("worth", mix, 1000000 * p + 1, 1000000), "less")
            if p > 0:
                self.check_decided(house, ("worth", mix, 0, 1), "more")
                self.check_decided(house, ("worth", mix, (p - 1) // q, 1), "more")
            if p > 0 and q == 1:
                self.check_decided(house, ("worth", mix, 1000000 * p - 1, 1000000), "more")
        self.check_decided(WHEEL, ("worth", (1,), 10, 3))
        self.check_decided(WHEEL, ("worth", (1,), 3333333, 1000000), "more")
        self.check_decided(WHEEL, ("worth", (1,), 1666667, 500000), "less")

    def check_fronts(self, house):
        """Claims that are just right, and such with a corner less, another one, or a price more or less."""
        right = front(house)
        self.assertEqual(self.check_decided(house, ("front", right)), "shown")
        for k, ((x, y), q) in enumerate(right):
            if len(right) > 1:
                self.check_decided(house, ("front", right[:k] + right[k + 1:]), "below")
            for more_x, more_y in ((1, 0), (0, 1), (-1, 0), (0, -1), (1, 1)):
                prices = 1000 * x + more_x, 1000 * y + more_y
                if min(prices) >= 0:
                    corner = lowest_terms(prices, 1000 * q)
                    claim = ("front", right[:k] + (corner,) + right[k + 1:])
                    if is_valid(house, claim):
                        self.check_decided(house, claim, "short" if min(more_x, more_y) < 0 else "below")

    def test_front(self):
        for house in (LOG, ROOMS, FIVE, FREE, STUCK, log_with(0, 5, 6, 10, 18)):
            self.check_fronts(house)
        for house in two_deeds(guarded_houses(104, 60)):
            self.check_fronts(house)
        self.check_decided(LOG, ("front", (((0, 0), 1),)), "short")
        self.check_decided(LOG, ("front", (((100, 100), 1),)), "below")
        self.check_decided(LOG, ("front", (((0, 11), 1), ((3, 2), 1))), "below")

    def test_front_that_is_not_short_at_first(self):
        # The corner in the place of (3, 2) is not fair, or it is.
        for corner in (((2499, 2999), 1000), ((2501, 2999), 1000)):
            self.check_decided(LOG, ("front", front(LOG)[:3] + (corner, ((5, 0), 1))))

    def test_most(self):
        source = random.Random(105)
        for house in NAMED + tuple(many_houses(105, 60)):
            for limits in (some_limits(source, len(house[2])), source.choice(FULL_LIMITS[len(house[2])])):
                number = most(house, limits)
                self.assertEqual(self.check_decided(house, ("most", limits, number)), "shown")
                self.check_decided(house, ("most", limits, number + 1), "less")
                self.check_decided(house, ("most", limits, BILLION), "less")
                if number > 0:
                    self.check_decided(house, ("most", limits, number - 1), "more")
                    self.check_decided(house, ("most", limits, 0), "more")

    def check_within(self, house, other):
        number = excess(house, other)
        if number is None:
            self.check_decided(house, ("within", other, 0), "endless")
            self.check_decided(house, ("within", other, 1000000), "endless")
            return
        self.assertEqual(self.check_decided(house, ("within", other, number)), "shown")
        self.assertEqual(self.check_decided(house, ("within", other, number + 1)), "shown")
        self.assertEqual(self.check_decided(house, ("within", other, 1000000)), "shown")
        if number > 0:
            self.check_decided(house, ("within", other, number - 1), "more")

    def test_within(self):
        source = random.Random(106)
        houses = NAMED + tuple(many_houses(106, 80)) + tuple(guarded_houses(106, 80))
        for house in houses:
            self.check_within(house, beside(source, house, houses))
            self.check_within(house, only_ways(house))
        for house, other in ((ONE, TWO), (TWO, ONE), (LOG, log_with(0, 4, 6, 7, 6)), (log_with(0, 4, 6, 7, 6), LOG)):
            self.check_within(house, other)
        self.check_within(round_in_23(20), round_in_15(13))
        self.check_within(round_in_23(3), round_in_15(2))

    def test_wins(self):
        source = random.Random(107)
        houses = two_deeds(NAMED) + two_deeds(guarded_houses(107, 80)) + two_deeds(many_houses(107, 40))
        told = {"shown": 0, "broken": 0}
        for house in houses:
            told[self.check_decided(house, ("wins", source.choice(houses)))] += 1
            self.assertEqual(self.check_decided(house, ("wins", house)), "broken")
        self.assertGreater(min(told.values()), 10)
        self.check_decided(LOG, ("wins", log_with(0, 4, 7, 7, 7)))
        self.check_decided(log_with(0, 4, 7, 7, 7), ("wins", LOG))

    def test_houses_of_24_contents(self):
        source = random.Random(108)
        for deeds in (1, 2, 3):
            for house in rich_houses(108, 4, deeds):
                mix, limits = some_mix(source, deeds), source.choice(FULL_LIMITS[deeds])
                tariff = best_tariff(house, mix)
                for claim in (
                    ("fair", tariff), ("need", tariff, need_of_begin(house, tariff)),
                    ("worth", mix) + worth(house, mix),
                    ("most", limits, most(house, limits)), ("within", only_ways(house), 0),
                ):
                    self.check_decided(house, claim)
        for house in LARGE_PAIRS + tuple(rich_houses(109, 5)):
            self.check_valid(house, ("front", front(house)))
            self.check_valid(house, ("front", front(house)[:1]))
            self.check_valid(house, ("wins", source.choice(LARGE_PAIRS)))


class CallsTest(ClaimCase):
    def test_calls(self):
        tariff = best_tariff(LARGE, (3, 2, 5))
        claims = [(LOG, claim) for claim in RIGHT] + [
            (LARGE, ("fair", tariff)), (LARGE, ("need", tariff, 10)), (LARGE, ("worth", (3, 2, 5), 1, 7)),
            (LARGE, ("most", (4, 4, 7), 825)), (LARGE, ("within", only_ways(LARGE), 3)),
            (COUNTER, ("front", front(COUNTER))),
            (COUNTER, ("wins", LARGE_PAIRS[1])), (COUNTER, ("wins", COUNTER)),
            (LOG, ("front", tuple(((20 + k, (200 - k) * (200 - k)), 1) for k in range(180)))),
            (round_in_23(20), ("within", round_in_15(13), 1)),
        ]
        for house, claim in claims:
            self.check_calls(require_claim, [("house", house), ("claim", claim)])
            self.check_calls(decide, [("house", house), ("claim", claim)])

    def test_a_value_that_is_no_claim_is_not_modified(self):
        for claim in (["fair", [[3, 2], 1]], ("fair", [[3, 2], 1]), {"fair": [1]}, ("within", list(LOG), 0)):
            before = repr(claim)
            self.check_invalid(LOG, claim)
            self.assertEqual(repr(claim), before)

    def test_single_house_words(self):
        for house in (SHUT, STUCK, WHEEL):
            self.check_decided(house, ("fair", ((0,) * len(house[2]), 1)))


if __name__ == "__main__":
    unittest.main()
