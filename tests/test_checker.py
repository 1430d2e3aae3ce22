import random
import time
import unittest

from paidahead.checker import first_fault
from paidahead.claims import decide
from paidahead.fronts import front
from paidahead.worths import best_tariff, worth
from tests import plain_checker
from tests.cases import ANY, ODD, SOME_SECONDS, Case, replacements
from tests.samples import BEHIND, COUNTER, FIVE, FREE, LARGE, LARGE_PAIRS, LOG, ROOMS, ROUND, SHUT, STUCK, WHEEL
from tests.samples import guarded_houses, log_with, many_houses, only_ways, rich_houses
from tests.test_pairs import ONE, TWO, round_in_15, round_in_23
from tests.test_together import need_of_begin
from tests.test_worths import some_mix
from tests.verdicts import is_true, is_valid

PUT, READ = (0, 0), (1, 0)
BILLION = 10 ** 9
TRILLION = 10 ** 12

FAIR, UNFAIR = ((3, 2), 1), ((1, 1), 1)
STOCKS = (((0,), 0), ((1,), 2), ((2,), 4), ((3,), 5), ((4,), 5))
SHORT_RING = ((), (PUT, READ))
LONG_RING = ((), (PUT, PUT, READ))
EMPTY_RING = ((), (READ,))
PLAN = (1, ((1,) + SHORT_RING, (1,) + LONG_RING))
DEAR = log_with(0, 5, 7, 8, 8)

WORDS = ("fair", "need", "worth", "front", "most", "within", "wins")


def with_part(value, *path):
    """The nest of tuples with another part, the last of path, at the indexes before it."""
    at, rest = path[0], path[1:]
    part = rest[0] if len(rest) == 1 else with_part(value[at], *rest)
    return value[:at] + (part,) + value[at + 1:]


def some_claims(source, house):
    """Claims of all words about a house, of each sort of certificate that there is for it."""
    many = len(house[2])
    mix = some_mix(source, many)
    tariff, (p, q) = best_tariff(house, mix), worth(house, mix)
    need = need_of_begin(house, tariff)
    found = [("fair", tariff), ("fair", ((0,) * many, 1)), ("need", ((0,) * many, 1), 3)]
    found += [("need", tariff, max(0, need + more)) for more in (-1, 0, 1)]
    found += [("worth", mix, p, q), ("worth", mix, p + q, q), ("worth", mix, max(0, p - 1) // q, 1)]
    found += [("most", (1,) * many, more) for more in (0, 3, 500)]
    found += [("most", (1,) * many, decide_most(house, many)), ("within", only_ways(house), 0)]
    found += [("within", ((2,), (0,), ((),) * many), 2), ("within", ((2,), (0,), (((("pay", 9),),),) * many), 3)]
    found += [("within", ((2,), (0,), (((("pay", 99),),),) * many), 0)]
    if many == 2:
        corners = front(house)
        found += [("front", corners), ("front", (((0, 0), 1),)), ("front", (((1000, 1000), 1),)), ("wins", house)]
        found += [("wins", other) for other in (LOG, FREE, ROOMS, DEAR)]
    return [claim for claim in found if is_valid(house, claim)]


def decide_most(house, many):
    return decide(house, ("most", (1,) * many, BILLION))[2][1][-1][2]


def paths(value, path=()):
    """The paths to all parts of a nest of tuples."""
    yield path
    if isinstance(value, tuple):
        for at, part in enumerate(value):
            yield from paths(part, path + (at,))


def part_at(value, path):
    for at in path:
        value = value[at]
    return value


def changed(source, value):
    """The nest of tuples with one part changed."""
    path = source.choice(list(paths(value)))
    part = part_at(value, path)
    if type(part) is int:
        part = source.choice((part - 1, part + 1, part + 1, part * 2, 0, 1, BILLION, -1, True))
    elif type(part) is tuple and part and source.randrange(8):
        at = source.randrange(len(part))
        kind = source.randrange(5)
        if kind == 0:
            part = part[:at] + part[at + 1:]
        elif kind == 1:
            part = part[:at] + part[at:at + 1] + part[at:]
        elif kind == 2:
            part = part[at:] + part[:at]
        elif kind == 3:
            part = part + (part[at],)
        else:
            part = part[:at] + (source.choice(part),) + part[at + 1:]
    else:
        part = source.choice(ODD + ((), part_at(value, source.choice(list(paths(value))))))
    return with_part(value, *path, part) if path else part


class CheckerCase(Case):
    def check(self, house, certificate, *expected):
        """The fault is expected, which is empty where there is none; the other checker says the same."""
        told = first_fault(house, certificate)
        self.assertEqual(told, expected if expected else None)
        self.assertEqual(plain_checker.first_fault(house, certificate), told)

    def check_content(self, house, word, claim, *cases):
        """Cases are pairs of a content and its fault."""
        for content, expected in cases:
            with self.subTest(word=word, claim=claim, content=content):
                self.check(house, (word, claim, content), *expected)


class FormTest(CheckerCase):
    def test_no_triple(self):
        for value in ((), ("shown",), ("shown", ("fair", FAIR)), ["shown", ("fair", FAIR), STOCKS], None, "shown", 3,
                      ("shown", ("fair", FAIR), STOCKS, STOCKS), {"shown": 1}, "abc", True):
            self.check(LOG, value, "form")

    def test_no_claim(self):
        for word in ("shown", "broken", "", None, ["shown"], True):
            for claim in (None, (), ("fair",), ("fair", ((2, 4), 2)), ("FAIR", FAIR), ["fair", FAIR], (["fair"], FAIR)):
                for content in (STOCKS, (), None):
                    self.check(LOG, (word, claim, content), "claim")
        self.check(ROUND, ("shown", ("fair", FAIR), STOCKS), "claim")
        self.check(ROUND, ("shown", ("wins", LOG), STOCKS), "claim")

    def test_the_word_is_neither(self):
        for word in ("", "Shown", "shown ", "show", "fair", None, True, 0, ("shown",), ["shown"], {"shown": 1}, b"shown"):
            self.check(LOG, (word, ("fair", FAIR), STOCKS), "form")

    def test_any_values(self):
        for house in (LOG, WHEEL, ROUND):
            for value in ANY:
                if value != ((), (), ()):
                    self.assertEqual(first_fault(house, value)[0], "form" if len_of(value) != 3 else "claim")
                self.assertEqual(first_fault(house, (value, value, value)), ("claim",))
                self.assertEqual(first_fault(house, ("shown", value, value)), ("claim",))

    def test_any_values_as_a_content(self):
        source = random.Random(111)
        for house in (LOG, ROUND):
            for claim in some_claims(source, house):
                for value in ANY:
                    for word in ("shown", "broken", value):
                        expected = plain_checker.first_fault(house, (word, claim, value))
                        self.assertEqual(first_fault(house, (word, claim, value)), expected)
                        self.assertIsNotNone(expected)

    def test_one_odd_part(self):
        """A certificate of each sort, in which one part is replaced by an odd one."""
        source = random.Random(112)
        for house in (LOG, WHEEL, FIVE):
            for claim in some_claims(source, house):
                word, _, content = decide(house, claim)
                for value in replacements(content):
                    certificate = (word, claim, value)
                    self.assertEqual(first_fault(house, certificate), plain_checker.first_fault(house, certificate))

    def test_stocks(self):
        for stocks in (
            STOCKS[::-1], STOCKS[:1] * 2, STOCKS[:2] + STOCKS[1:], STOCKS[1:] + STOCKS[:1], list(STOCKS), None, 5,
            (None,), STOCKS + (((5,), 0),), STOCKS[:4] + (((-1,), 5),), (((0,), -1),) + STOCKS[1:],
            (((0,), TRILLION + 1),), (((0,), True),), (((False,), 0),), ((0, 0),), (((0, 0), 0),), (((0,),),),
            (((0,), 0, 0),), ([(0,), 0],),
            (([0], 0),), (((0,), None),), (((0,), "0"),), ({(0,): 0},), STOCKS * 50000,
        ):
            self.check(LOG, ("shown", ("fair", FAIR), stocks), "form")
        self.check(LOG, ("shown", ("fair", FAIR), (((0,), TRILLION),)), "move", 0, 0, 0)

    def test_rings(self):
        for ring in (
            ((), ()), ((PUT,), ()), (), ((),), ((), (READ,), ()), [(), (READ,)], ([], (READ,)), ((), [READ]), None, 1,
            ((), (None,)), ((), (READ, (2, 0))), ((), (READ, (1, 1))), ((), (READ, (-1, 0))), ((), ((True, 0),)),
            ((), ((1, False),)), ((), ([1, 0],)), ((), ((1,),)), ((), ((1, 0, 0),)), ((None,), (READ,)),
            (((0, 1),), (READ,)), ((READ,) * 10001, (READ,)), ((), (READ,) * 10001), ((PUT,) * 10001, (READ,)),
        ):
            self.check(LOG, ("broken", ("fair", UNFAIR), ring), "form")

    def test_plans(self):
        part = (1,) + SHORT_RING
        claim = ("worth", (3, 2), 13, 1)
        for plan in (
            (0, ()), (-1, ()), (BILLION + 1, ()), (True, ()), (None, ()), (1, (part,) * 7), (1, [part]), [1, (part,)],
            (1,), (1, (part,), 0), (1, part), (1, ((0,) + SHORT_RING,)), (1, ((BILLION + 1,) + SHORT_RING,)), None,
            (1, ((True,) + SHORT_RING,)), (1, ((1, SHORT_RING),)), (1, ((1, (), ()),)), (1, ((1, ((2, 0),), (READ,)),)),
            (1, ((1, (), (READ,), ()),)), (1, ([1, (), (READ,)],)), (1, (part, None)), 0, "plan",
        ):
            self.check(LOG, ("shown", claim, (FAIR, STOCKS, plan)), "form")
            # Form faults are looked for in all of it, before the sum is asked for.
            self.check(LOG, ("shown", claim, (((4, 2), 1), STOCKS, plan)), "form")
            self.check(LOG, ("broken", ("worth", (3, 2), 12, 1), ("more", plan)), "form")

    def test_tables(self):
        most, _, (history, table) = decide(LOG, ("most", (1, 1), 5))
        claim = ("most", (1, 1), 5)
        self.assertEqual(most, "shown")
        self.check(LOG, ("shown", claim, (history, table)))
        for other in (
            table[::-1], table[:1] * 2, list(table), None, (None,), table + table[-1:], with_part(table, 0, 0, (5,)),
            with_part(table, 0, 0, 0), with_part(table, 0, 1, (0, 2)), with_part(table, 0, 1, (0, -1)),
            with_part(table, 0, 1, (0,)), with_part(table, 0, 1, (0, 0, 0)), with_part(table, 0, 1, (False, 0)),
            with_part(table, 0, 2, -1), with_part(table, 0, 2, BILLION + 1), with_part(table, 0, 2, None),
            with_part(table, 0, table[0][:2]), with_part(table, 0, table[0] + (0,)),
            with_part(table, 0, list(table[0])),
            table * 2000,
        ):
            self.check(LOG, ("shown", claim, (history, other)), "form")
            self.check(LOG, ("broken", ("most", (1, 1), 6), ("less", other)), "form")
        both = decide(LOG, ("within", LOG, 0))[2]
        for other in (
            both[::-1], both[:1] * 2, list(both), None, (None,), with_part(both, 0, 0, (5,)),
            with_part(both, 0, 1, (5,)), with_part(both, 0, 1, 0), with_part(both, 0, 2, -1),
            with_part(both, 0, 2, BILLION + 1), both * 2000, with_part(both, 0, 2, True),
            with_part(both, 0, both[0][:2]), with_part(both, 0, both[0] + (0,)),
        ):
            self.check(LOG, ("shown", ("within", LOG, 0), other), "form")

    def test_words_of_broken_ones(self):
        for claim, content in (
            (("need", UNFAIR, 3), ("endless", SHORT_RING)), (("need", FAIR, 3), ("less", STOCKS)),
            (("need", ((2, 5), 1), 0), ("more", ())), (("worth", (3, 2), 14, 1), ("less", FAIR, STOCKS)),
            (("worth", (3, 2), 12, 1), ("more", PLAN)), (("front", (UNFAIR,)), ("short", 0, SHORT_RING)),
            (("front", (((9, 9), 1),)), ("below", (3, 2), FAIR, STOCKS)), (("most", (1, 1), 4), ("more", (PUT, READ))),
            (("within", FREE, 4), ("more", (PUT,) * 4)), (("within", FREE, 4), ("endless", SHORT_RING)),
        ):
            self.assertNotEqual(first_fault(LOG, ("broken", claim, content)), ("form",))
            for word in ("", "shown", "broken", content[0] + "s", content[0].upper(), None, 0, [content[0]], True):
                self.check(LOG, ("broken", claim, (word,) + content[1:]), "form")
            for other in (content + (1,), content[:-1], list(content), content[1:], content[0], content[1]):
                self.check(LOG, ("broken", claim, other), "form")
            # The other words, with parts that do not fit to them.
            for word in ("endless", "less", "more", "short", "below"):
                certificate = ("broken", claim, (word,) + content[1:])
                self.assertEqual(first_fault(LOG, certificate), plain_checker.first_fault(LOG, certificate))

    def test_front_papers(self):
        claim = ("front", front(LOG))
        stocks_of, first, edges, last = decide(LOG, claim)[2]
        for content in (
            (stocks_of[1:], first, edges, last), (stocks_of + stocks_of[:1], first, edges, last),
            ((), first, edges, last), (list(stocks_of), first, edges, last), (stocks_of, first, edges[1:], last),
            (stocks_of, first, (), last), (stocks_of, first, edges + edges[:1], last),
            (stocks_of, first, edges[:3] + (None,), last),
            (stocks_of, EMPTY_RING, edges, last), (stocks_of, first, edges, ((), (PUT,))), (stocks_of, first, edges),
            (stocks_of, first, list(edges), last), (stocks_of[:4] + (None,), first, edges, last),
            (stocks_of, (), edges, last), (stocks_of, False, edges, last), (stocks_of, first, edges, last, None),
        ):
            self.check(LOG, ("shown", claim, content), "form")
        rooms = ("front", front(ROOMS))
        stocks_of, first, edges, last = decide(ROOMS, rooms)[2]
        self.check(ROOMS, ("shown", rooms, (stocks_of, first, edges, last)))
        for content in ((stocks_of, None, edges, last), (stocks_of, first, edges, None), (stocks_of, None, edges, None)):
            self.check(ROOMS, ("shown", rooms, content), "form")

    def test_a_k_of_no_corner(self):
        claim = ("front", (UNFAIR, ((2, 0), 1)))
        for k in (-1, 2, 180, None, True, False, "0", (0,)):
            self.check(LOG, ("broken", claim, ("short", k, SHORT_RING)), "form")
        for k in (0, 1):
            self.check(LOG, ("broken", claim, ("short", k, SHORT_RING)))

    def test_below(self):
        claim = ("front", (((9, 9), 1),))
        for mix in ((0, 0), (101, 1), (1,), (1, 1, 1), (True, 1), [1, 1], None, (-1, 2)):
            self.check(LOG, ("broken", claim, ("below", mix, FAIR, STOCKS)), "form")
        for tariff in (((6, 4), 2), ((3, 2), 0), (3, 2), None, ((3,), 1)):
            self.check(LOG, ("broken", claim, ("below", (1, 1), tariff, STOCKS)), "form")

    def test_corners_of_a_wins_paper(self):
        claim = ("wins", LOG)
        paper = decide(LOG, claim)[2]
        self.check(LOG, ("broken", claim, paper))
        corners = paper[0]
        for other in (
            corners[::-1], corners[:1] * 2, (), None, list(corners), corners + (((6, 1), 1),),
            corners[:4] + (((6, 0), 0),), corners[:4] + (((10, 0), 2),), corners[:2] + (((5, 5), 2),) + corners[3:],
        ):
            self.check(LOG, ("broken", claim, (other,) + paper[1:]), "form")
        self.check(LOG, ("broken", claim, paper[:5] + (paper[5][1:],)), "form")
        self.check(LOG, ("broken", claim, paper[:5] + (paper[5] + paper[5][:1],)), "form")
        self.check(LOG, ("broken", claim, paper[:5]), "form")
        # Stocks of the other house have its contents.
        self.check(LOG, ("broken", ("wins", FREE), paper), "form")

    def test_moves_of_which_house(self):
        # WHEEL has two ways, the other house has one: common histories are of moves of the first house.
        other = ((2,), (0,), (((("pay", 3),),),))
        self.check(WHEEL, ("broken", ("within", other, 0), ("endless", ((), ((0, 0), (0, 0), (0, 1))))))
        self.check(LOG, ("broken", ("within", FREE, 0), ("more", ((0, 1),))), "form")
        # The plan of a wins paper is of moves of the other house.
        two_ways = ((2,), (0,), (((), (("pay", 9),)), ((),)))
        stocks = (((0,), 0),)
        self.check(STUCK, ("shown", ("wins", two_ways), ((1, 0), ((0, 0), 1), stocks, (1, ((1, (), ((0, 1),)),)))))
        self.check(STUCK, ("shown", ("wins", two_ways), ((1, 0), ((0, 0), 1), stocks, (1, ((1, (), ((1, 1),)),)))), "form")

    def test_histories_of_ten_thousand_moves(self):
        turn = (PUT, READ) * 5000
        self.check(LOG, ("broken", ("fair", UNFAIR), ((READ,) * 10000, turn)))
        self.check(LOG, ("broken", ("fair", UNFAIR), ((READ,) * 10001, turn)), "form")
        self.check(LOG, ("broken", ("fair", UNFAIR), ((), turn + (READ,))), "form")
        for many, fault in ((10000, ()), (10001, ("form",))):
            self.check(LOG, ("shown", ("need", FAIR, 0), (STOCKS, (READ,) * many)), *(fault or ("amount",)))
            self.check(SHUT, ("broken", ("need", ((0,), 1), 0), ("more", (PUT,) * many)), *fault)
            self.check(SHUT, ("broken", ("within", ((2,), (0,), (((),),)), 0), ("more", (PUT,) * many)), *fault)
            self.check(SHUT, ("broken", ("within", ((2,), (0,), (((),),)), 0), ("endless", ((), (PUT,) * many))), *fault)
            self.check(SHUT, ("broken", ("worth", (1,), 0, 1), ("more", (many, ((1, (PUT,) * many, (PUT,) * many),)))), *fault)
            self.check(SHUT, ("broken", ("most", (9,), 1), ("more", (PUT,) * many)), *(fault or ("counts",)))


class FairTest(CheckerCase):
    def test_stocks(self):
        self.check_content(
            LOG, "shown", ("fair", FAIR), (STOCKS, ()), ((), ("start",)), (STOCKS[1:], ("start",)),
            (STOCKS[:2] + STOCKS[3:], ("move", 1, 0, 0)), (STOCKS[:4], ("move", 3, 0, 0)),
            (STOCKS[:1], ("move", 0, 0, 0)),
            (tuple((content, stock + 7) for content, stock in STOCKS), ()),
            (with_part(STOCKS, 0, 1, 7), ("move", 1, 1, 0)),
            (with_part(STOCKS, 1, 1, 3), ("move", 0, 0, 0)),
            (with_part(STOCKS, 1, 1, 1), ("move", 1, 0, 0)), (with_part(STOCKS, 4, 1, 4), ("move", 4, 1, 0)),
            (with_part(STOCKS, 4, 1, 6), ()), (with_part(STOCKS, 4, 1, 8), ("move", 3, 0, 0)),
            # Two faults: the lesser index is told, then the lesser move.
            (with_part(with_part(STOCKS, 1, 1, 1), 4, 1, 4), ("move", 1, 0, 0)),
            (with_part(with_part(STOCKS, 2, 1, 7), 4, 1, 4), ("move", 1, 0, 0)),
            (tuple((content, 0) for content, _ in STOCKS), ("move", 1, 1, 0)),
        )
        self.check_content(LOG, "shown", ("fair", UNFAIR), (STOCKS, ("move", 0, 0, 0)), ((), ("start",)))

    def test_contents_that_are_not_come_to(self):
        right = (((1,), 0),)
        self.check_content(
            SHUT, "shown", ("fair", ((2,), 1)), (right, ()), ((((0,), 5),) + right, ()),
            (right + (((2,), 5),), ("move", 1, 0, 1)), ((((0,), 5),) + right + (((3,), 0),), ("move", 2, 0, 1)),
            ((((2,), 5),), ("start",)),
        )
        self.check_content(
            SHUT, "shown", ("fair", ((99,), 1)), (right + (((2,), 5),), ()), (right + (((2,), 0), ((3,), 9)), ()),
            ((((2,), 5),), ("start",)),
        )

    def test_prices_that_are_no_whole_numbers(self):
        stocks = decide(WHEEL, ("fair", ((10,), 3)))[2]
        self.check(WHEEL, ("shown", ("fair", ((10,), 3)), stocks))
        self.assertEqual(stocks, (((0,), 0), ((1,), 7), ((2,), 14)))
        self.check(WHEEL, ("shown", ("fair", ((3,), 1)), stocks), "move", 0, 0, 0)
        self.check(WHEEL, ("shown", ("fair", ((10,), 3)), with_part(stocks, 2, 1, 13)), "move", 2, 0, 1)

    def test_rings(self):
        self.check_content(
            LOG, "broken", ("fair", UNFAIR), (SHORT_RING, ()), (LONG_RING, ()), (((PUT,), (READ, PUT)), ()),
            (((PUT,) * 5, (READ,)), ("road", 4)), (((PUT,) * 5 + (READ,), (PUT,)), ("road", 4)),
            (((PUT,) * 4, (PUT, READ)), ("turn", 0)), (((), (PUT,) * 5 + (READ,)), ("turn", 4)),
            (((), (PUT,)), ("open",)), (((PUT,), (READ,)), ("open",)), (((PUT,), (PUT, READ)), ("open",)),
            (EMPTY_RING, ("paid",)), (((PUT,) * 9, (PUT,) * 9), ("road", 4)), (((PUT,) * 3, (PUT,) * 9), ("turn", 1)),
        )
        self.check_content(
            LOG, "broken", ("fair", FAIR), (SHORT_RING, ("paid",)), (LONG_RING, ("paid",)), (((), (PUT,)), ("open",)),
            (((), (PUT,) * 5), ("turn", 4)),
        )
        # Just paid, and a millionth less.
        self.check(LOG, ("broken", ("fair", ((4, 1), 1)), SHORT_RING), "paid")
        self.check(LOG, ("broken", ("fair", ((4000000, 999999), 1000000)), SHORT_RING))


class NeedTest(CheckerCase):
    def test_shown(self):
        claim = ("need", ((7,), 1), 129)
        stocks, history = decide(BEHIND, claim)[2]
        self.assertEqual(stocks[0], ((0,), 129))
        more = with_part(stocks, 0, 1, 130)
        self.check_content(
            BEHIND, "shown", claim, ((stocks, history), ()), ((stocks[1:], history), ("start",)),
            ((more, history), ("number",)), ((with_part(stocks, 0, 1, 128), history), ("number",)),
            ((stocks[:3], history), ("move", 2, 0, 0)), ((stocks, ()), ("amount",)),
            ((stocks, history[:2]), ("amount",)), ((stocks, ((0, 1),)), ("history", 0)),
            ((stocks, history + ((0, 0),)), ("history", 3)), ((stocks, history + ((0, 1),)), ()),
            # The stocks come first.
            ((stocks[1:], ((0, 1),)), ("start",)), ((more, ()), ("number",)), ((stocks[:3], ()), ("move", 2, 0, 0)),
            ((stocks, ((0, 1), (0, 1))), ("history", 0)),
        )
        # A greater number with stocks to it, but no history.
        self.check(BEHIND, ("shown", ("need", ((7,), 1), 130), (more, history)), "amount")
        self.check(BEHIND, ("shown", ("need", ((7,), 1), 128), (stocks, history)), "number")

    def test_endless(self):
        self.check_content(
            LOG, "broken", ("need", UNFAIR, 5), (("endless", SHORT_RING), ()), (("endless", EMPTY_RING), ("paid",)),
            (("endless", ((), (PUT,))), ("open",)), (("endless", ((PUT,) * 5, (READ,))), ("road", 4)),
            (("endless", ((), (PUT,) * 5)), ("turn", 4)),
        )
        self.check(LOG, ("broken", ("need", FAIR, 5), ("endless", SHORT_RING)), "paid")

    def test_less(self):
        self.check_content(
            LOG, "broken", ("need", FAIR, 1), (("less", STOCKS), ()), (("less", STOCKS[1:]), ("start",)),
            (("less", with_part(STOCKS, 0, 1, 1)), ("number",)), (("less", STOCKS[:1]), ("move", 0, 0, 0)),
            (("less", with_part(with_part(STOCKS, 0, 1, 1), 1, 1, 1)), ("number",)),
            (("less", with_part(STOCKS, 1, 1, 1)), ("move", 1, 0, 0)),
        )
        self.check(LOG, ("broken", ("need", FAIR, 0), ("less", STOCKS)), "number")

    def test_more(self):
        self.check_content(
            BEHIND, "broken", ("need", ((7,), 1), 128), (("more", ((0, 0),) * 3), ()),
            (("more", ((0, 0),) * 2), ("amount",)),
            (("more", ((0, 0),) * 4), ("history", 3)), (("more", ()), ("amount",)),
        )
        self.check(BEHIND, ("broken", ("need", ((7,), 1), 129), ("more", ((0, 0),) * 3)), "amount")
        self.check(LOG, ("broken", ("need", UNFAIR, 5), ("more", (PUT, READ, PUT, READ))))
        self.check(LOG, ("broken", ("need", UNFAIR, 6), ("more", (PUT, READ, PUT, READ))), "amount")


class WorthTest(CheckerCase):
    def test_shown(self):
        beyond = (1, PLAN[1] + ((1,) + EMPTY_RING,))
        barred = (1, PLAN[1][:1] + ((1, (), (PUT,) * 5),))
        self.check_content(
            LOG, "shown", ("worth", (3, 2), 13, 1), ((FAIR, STOCKS, PLAN), ()), ((((3, 3), 1), STOCKS, PLAN), ("sum",)),
            ((((4, 1), 1), STOCKS, PLAN), ("sum",)), ((FAIR, STOCKS[1:], PLAN), ("start",)),
            ((FAIR, STOCKS[:1], PLAN), ("move", 0, 0, 0)), ((FAIR, STOCKS, barred), ("part", 1, ("turn", 4))),
            ((FAIR, STOCKS, (1, ((1, (PUT,) * 5, (READ,)),))), ("part", 0, ("road", 4))),
            ((FAIR, STOCKS, (1, ((1, (), (PUT,)),))), ("part", 0, ("open",))), ((FAIR, STOCKS, beyond), ("mix",)),
            ((FAIR, STOCKS, (1, PLAN[1][:1])), ("amount",)), ((FAIR, STOCKS, (1, ())), ("amount",)),
            ((FAIR, STOCKS, (2, PLAN[1])), ("amount",)), ((FAIR, STOCKS, (2, PLAN[1] * 2)), ()),
            ((FAIR, STOCKS, (3, PLAN[1] * 3)), ()), ((FAIR, STOCKS, (2, PLAN[1] * 3)), ("mix",)),
            # Two faults: the sum, the stocks, the parts, the mix, the amount.
            ((((3, 3), 1), STOCKS[1:], beyond), ("sum",)), ((FAIR, STOCKS[1:], barred), ("start",)),
            ((FAIR, STOCKS, (1, barred[1] + beyond[1])), ("part", 1, ("turn", 4))),
            ((FAIR, STOCKS, (1, PLAN[1] + PLAN[1])), ("mix",)),
        )
        # The sum is right, but the tariff is not fair.
        self.check(LOG, ("shown", ("worth", (3, 2), 13, 1), (((1, 5), 1), STOCKS, PLAN)), "move", 0, 0, 0)

    def test_sums_that_are_no_whole_numbers(self):
        claim = ("worth", (1,), 10, 3)
        tariff, stocks, plan = decide(WHEEL, claim)[2]
        self.check(WHEEL, ("shown", claim, (tariff, stocks, plan)))
        self.check(WHEEL, ("shown", ("worth", (2,), 20, 3), (tariff, stocks, (plan[0], plan[1] * 2))))
        self.check(WHEEL, ("shown", ("worth", (2,), 10, 3), (tariff, stocks, plan)), "sum")
        self.check(WHEEL, ("shown", ("worth", (1,), 3, 1), (((3,), 1), stocks, plan)), "move", 0, 0, 0)

    def test_less(self):
        dear = tuple((content, stock + 9) for content, stock in STOCKS)
        self.check_content(
            LOG, "broken", ("worth", (3, 2), 27, 2), (("less", FAIR, STOCKS), ()), (("less", FAIR, dear), ()),
            (("less", ((3, 3), 1), STOCKS), ("sum",)), (("less", FAIR, STOCKS[1:]), ("start",)),
            (("less", ((3, 1), 1), STOCKS), ("move", 1, 1, 0)), (("less", ((3, 3), 1), ()), ("sum",)),
            (("less", FAIR, STOCKS[:3]), ("move", 2, 0, 0)),
        )
        self.check(LOG, ("broken", ("worth", (3, 2), 13, 1), ("less", FAIR, STOCKS)), "sum")
        self.check(LOG, ("broken", ("worth", (3, 2), 12, 1), ("less", FAIR, STOCKS)), "sum")

    def test_more(self):
        self.check_content(
            LOG, "broken", ("worth", (3, 2), 25, 2), (("more", PLAN), ()), (("more", (2, PLAN[1] * 2)), ()),
            (("more", (2, PLAN[1])), ("amount",)), (("more", (1, PLAN[1] * 2)), ("mix",)),
            (("more", (1, ())), ("amount",)),
            (("more", (1, PLAN[1] + ((1, (), (PUT,)),))), ("part", 2, ("open",))),
            (("more", (1, ((1, (PUT,) * 5, (READ,)),) + PLAN[1] * 2)), ("part", 0, ("road", 4))),
            (("more", (1, ((BILLION,) + LONG_RING,))), ("mix",)),
            (("more", (BILLION, ((BILLION,) + LONG_RING,))), ("amount",)),
        )
        self.check(LOG, ("broken", ("worth", (3, 2), 13, 1), ("more", PLAN)), "amount")
        self.check(LOG, ("broken", ("worth", (3, 1), 12, 1), ("more", PLAN)), "mix")


class FrontTest(CheckerCase):
    def test_shown(self):
        corners = front(LOG)
        stocks_of, first, edges, last = decide(LOG, ("front", corners))[2]
        self.assertEqual((first, last), (None, None))

        def edge(k, ring):
            return stocks_of, first, with_part(edges, k, ring), last

        self.check_content(
            LOG, "shown", ("front", corners), ((stocks_of, first, edges, last), ()),
            ((with_part(stocks_of, 2, stocks_of[2][1:]), first, edges, last), ("corner", 2, ("start",))),
            ((with_part(stocks_of, 0, stocks_of[0][:1]), first, edges, last), ("corner", 0, ("move", 0, 0, 0))),
            ((stocks_of[::-1], first, edges, last), ("corner", 0, ("move", 0, 0, 0))),
            (edge(0, ((PUT,) * 5, (READ,))), ("edge", 0, ("road", 4))),
            (edge(1, ((), (PUT,) * 5)), ("edge", 1, ("turn", 4))),
            (edge(2, ((PUT,), (READ,))), ("edge", 2, ("open",))), (edge(3, edges[2]), ("edge", 3, ("unjust",))),
            (edge(0, edges[1]), ("edge", 0, ("unjust",))), (edge(0, EMPTY_RING), ("edge", 0, ("unjust",))),
            # The least k, and corners before edges.
            ((stocks_of, first, edges[::-1], last), ("edge", 0, ("unjust",))),
            ((with_part(stocks_of, 4, ()), first, edges[::-1], last), ("corner", 4, ("start",))),
            ((with_part(with_part(stocks_of, 4, ()), 1, ()), first, edges, last), ("corner", 1, ("start",))),
        )

    def test_ends(self):
        claim = ("front", front(ROOMS))
        stocks_of, first, edges, last = decide(ROOMS, claim)[2]
        road, one, two = ((0, 0),), ((0, 2),), ((1, 0),)
        dear = ((0, 1),)
        self.check_content(
            ROOMS, "shown", claim, ((stocks_of, first, edges, last), ()),
            ((stocks_of, (road, one), (), (dear, two)), ()),
            ((stocks_of, (road, two), (), (dear, two)), ("first", ("deeds",))),
            ((stocks_of, (road, one + two), (), (dear, two)), ("first", ("deeds",))),
            ((stocks_of, (dear, one), (), (dear, two)), ("first", ("unjust",))),
            ((stocks_of, (dear, ((0, 0),)), (), (dear, two)), ("first", ("turn", 0))),
            ((stocks_of, ((), ((0, 0),)), (), (dear, two)), ("first", ("open",))),
            ((stocks_of, (two, one), (), (dear, two)), ("first", ("road", 0))),
            ((stocks_of, (road, one), (), (dear, one)), ("last", ("deeds",))),
            ((stocks_of, (road, one), (), (road, two)), ("last", ("unjust",))),
            ((stocks_of, (road, one), (), (one, two)), ("last", ("road", 0))),
            ((stocks_of, (road, one), (), (dear, dear)), ("last", ("turn", 0))),
            ((stocks_of, (dear, one), (), (road, two)), ("first", ("unjust",))),
            ((((),), (dear, one), (), (road, two)), ("corner", 0, ("start",))),
        )

    def test_first_edge_last_in_their_order(self):
        house = ((2,), (0,), (
            ((("pay", 1),), (("only", 0, 0, 0), ("set", 0, 1))),
            ((("pay", 1),), (("only", 0, 1, 1), ("set", 0, 0), ("pay", 5))),
        ))
        claim = ("front", front(house))
        self.assertEqual(claim[1], (((1, 4), 1), ((4, 1), 1)))
        stocks_of, first, edges, last = decide(house, claim)[2]
        bad = ((), ((0, 1),))
        self.check_content(
            house, "shown", claim, ((stocks_of, first, edges, last), ()),
            ((stocks_of, bad, (bad,), bad), ("first", ("open",))),
            ((stocks_of, first, (bad,), bad), ("edge", 0, ("open",))),
            ((stocks_of, first, edges, bad), ("last", ("open",))),
            ((stocks_of, last, edges, last), ("first", ("deeds",))),
            ((stocks_of, first, edges, first), ("last", ("deeds",))),
            ((stocks_of, first, (first,), last), ("edge", 0, ("unjust",))),
            ((stocks_of, first, (last,), last), ("edge", 0, ("unjust",))),
        )

    def test_short(self):
        claim = ("front", (((0, 11), 1), ((1, 6), 1), ((2, 4), 1)))
        ring = ((), (PUT,) * 3 + (READ,))
        self.check_content(
            LOG, "broken", claim, (("short", 1, ring), ()), (("short", 0, ring), ("paid",)),
            (("short", 2, ring), ("paid",)), (("short", 1, EMPTY_RING), ("paid",)),
            (("short", 1, ((), (PUT,))), ("open",)),
            (("short", 1, ((PUT,) * 5, (READ,))), ("road", 4)), (("short", 0, ((), (PUT,) * 5)), ("turn", 4)),
        )

    def test_below(self):
        corners = (((0, 11), 1), ((2, 4), 1), ((5, 0), 1))
        self.check_content(
            LOG, "broken", ("front", corners), (("below", (3, 2), FAIR, STOCKS), ()),
            (("below", (3, 1), FAIR, STOCKS), ("sum",)), (("below", (5, 2), FAIR, STOCKS), ("sum",)),
            (("below", (1, 1), FAIR, STOCKS), ("sum",)), (("below", (3, 2), FAIR, STOCKS[1:]), ("start",)),
            (("below", (3, 2), ((3, 1), 1), STOCKS), ("move", 1, 1, 0)), (("below", (1, 1), FAIR, ()), ("sum",)),
            (("below", (0, 1), FAIR, STOCKS), ("sum",)), (("below", (100, 67), FAIR, STOCKS), ()),
        )
        self.check(LOG, ("broken", ("front", front(LOG)), ("below", (3, 2), FAIR, STOCKS)), "sum")


class MostTest(CheckerCase):
    def test_shown(self):
        claim = ("most", (1, 1), 5)
        history, table = decide(LOG, claim)[2]
        start = [entry[:2] for entry in table].index(((0,), (1, 1)))
        at = [entry[:2] for entry in table].index(((1,), (0, 1)))
        self.assertEqual(history, (PUT, READ))
        needed = tuple(entry for entry in table if entry[:2] in (
            ((0,), (1, 1)), ((0,), (1, 0)), ((0,), (0, 0)), ((1,), (0, 1)), ((1,), (0, 0))))
        self.check_content(
            LOG, "shown", claim, ((history, table), ()), ((history, needed), ()), ((history[:1], table), ("amount",)),
            ((history + (PUT,), table), ("counts",)), (((PUT,) * 5, table), ("history", 4)), (((), table), ("amount",)),
            (((READ, PUT), table), ("amount",)), ((history, ()), ("start",)),
            ((history, table[:start] + table[start + 1:]), ("start",)),
            ((history, with_part(table, start, 2, 6)), ("number",)),
            ((history, with_part(table, start, 2, 4)), ("number",)),
            ((history, with_part(table, at, 2, 3)), ("move", at, 1, 0)),
            ((history, with_part(table, at, 2, 5)), ("move", start, 0, 0)),
            ((history, table[:at] + table[at + 1:]), ("move", start, 0, 0)),
            ((history, needed[:-1]), ("move", 2, 0, 0)), ((history, needed[:2] + needed[3:4]), ("start",)),
            # The history comes before the table, and in it the barred move before the counts, and these before the amount.
            ((history[:1], ()), ("amount",)), (((PUT,) * 5, ()), ("history", 4)), (((READ, READ), ()), ("counts",)),
            (((READ,) * 2 + (PUT,) * 5, ()), ("history", 6)), ((history + history, table), ("counts",)),
        )

    def test_contents_that_are_not_come_to(self):
        # A move of the second way is open in 2 and 3 alone, and pays 99.
        claim = ("most", (2,), 4)
        history, table = decide(SHUT, claim)[2]
        self.assertEqual(table, (((1,), (0,), 0), ((1,), (1,), 2), ((1,), (2,), 4)))
        beside = table + (((2,), (0,), 0), ((2,), (1,), 99), ((3,), (0,), 5))
        self.check_content(
            SHUT, "shown", claim, ((history, table), ()), ((history, beside), ()),
            ((history, (((0,), (2,), 7),) + beside), ()),
            ((history, with_part(beside, 4, 2, 98)), ("move", 4, 0, 1)),
            ((history, with_part(beside, 3, 2, 1)), ("move", 4, 0, 1)),
            ((history, beside + (((3,), (2,), 500),)), ("move", 6, 0, 1)),
        )
        self.check(SHUT, ("broken", ("most", (2,), 5), ("less", beside)))

    def test_number_of_a_table(self):
        # A table for more than the most, and a history for less.
        claim = ("most", (1, 1), 6)
        history, table = decide(LOG, ("most", (1, 1), 5))[2]
        start = [entry[:2] for entry in table].index(((0,), (1, 1)))
        self.check(LOG, ("shown", claim, (history, with_part(table, start, 2, 6))), "amount")
        self.check(LOG, ("shown", ("most", (1, 1), 4), (history, table)), "amount")

    def test_less(self):
        table = decide(LOG, ("most", (1, 1), 5))[2][1]
        start = [entry[:2] for entry in table].index(((0,), (1, 1)))
        self.check_content(
            LOG, "broken", ("most", (1, 1), 6), (("less", table), ()), (("less", ()), ("start",)),
            (("less", with_part(table, start, 2, 6)), ("number",)),
            (("less", with_part(table, start, 2, 4)), ("move", start, 0, 0)),
            (("less", table[:start] + table[start + 1:]), ("start",)),
        )
        self.check(LOG, ("broken", ("most", (1, 1), 5), ("less", table)), "number")
        self.check(LOG, ("broken", ("most", (0, 0), 0), ("less", (((0,), (0, 0), 0),))), "number")
        self.check(LOG, ("broken", ("most", (0, 0), 1), ("less", (((0,), (0, 0), 0),))))

    def test_more(self):
        self.check_content(
            LOG, "broken", ("most", (2, 1), 7), (("more", (PUT, PUT, READ)), ()), (("more", (PUT, READ)), ("amount",)),
            (("more", (PUT, READ, READ)), ("counts",)), (("more", (PUT,) * 5), ("history", 4)),
            (("more", ()), ("amount",)), (("more", (PUT, READ) * 3), ("counts",)),
        )
        self.check(LOG, ("broken", ("most", (2, 1), 8), ("more", (PUT, PUT, READ))), "amount")


class WithinTest(CheckerCase):
    def test_shown(self):
        claim = ("within", TWO, 2)
        table = decide(ONE, claim)[2]
        self.assertEqual(table, (((0,), (0,), 2), ((1,), (1,), 0)))
        beside = table[:1] + (((0,), (1,), 50),) + table[1:]
        self.check_content(
            ONE, "shown", claim, (table, ()), ((), ("start",)), (table[1:], ("start",)),
            (with_part(table, 0, 2, 3), ("number",)),
            (with_part(table, 0, 2, 1), ("move", 0, 0, 0)), (table[:1], ("move", 0, 0, 0)),
            (with_part(table, 1, 2, 1), ("move", 0, 0, 0)),
            (with_part(with_part(table, 0, 2, 3), 1, 2, 9), ("number",)),
            # Pairs that are not come to may be there, if what they lead to is there, too, and has not too much.
            (beside, ()), (with_part(beside, 1, 2, 2), ("move", 1, 0, 0)),
            (beside[:2] + (((1,), (0,), 0),) + beside[2:], ("move", 2, 1, 0)),
        )
        self.check(ONE, ("shown", ("within", TWO, 3), table))
        self.check(ONE, ("shown", ("within", TWO, 3), with_part(with_part(table, 0, 2, 3), 1, 2, 1)))
        self.check(ONE, ("shown", ("within", TWO, 1), table), "number")

    def test_pairs_that_are_not_come_to(self):
        house = ((3,), (0,), (((("only", 0, 0, 1), ("set", 0, 0), ("pay", 3)),),))
        other = ((3,), (0,), (((("only", 0, 0, 1), ("set", 0, 0), ("pay", 4)),),))
        table = (((0,), (0,), 0),)
        self.check_content(
            house, "shown", ("within", other, 0), (table, ()), (table + (((0,), (1,), 7),), ()),
            (table + (((2,), (1,), 0),), ()), (table + (((0,), (2,), 0), ((1,), (0,), 0), ((2,), (2,), BILLION)), ()),
        )
        self.check(other, ("shown", ("within", house, 0), table), "move", 0, 0, 0)

    def test_more(self):
        self.check_content(
            ONE, "broken", ("within", TWO, 1), (("more", (PUT,)), ()), (("more", (PUT, READ)), ("amount",)),
            (("more", ()), ("amount",)), (("more", (PUT, READ, PUT)), ()),
        )
        self.check(ONE, ("broken", ("within", TWO, 2), ("more", (PUT,))), "amount")
        # A move is barred that is barred in either house.
        self.check(LOG, ("broken", ("within", log_with(0, 0, 0, 0, 0), 0), ("more", (PUT,) * 5)), "history", 4)
        self.check(LOG, ("broken", ("within", STUCK[:2] + (STUCK[2][::-1],), 0), ("more", (READ, PUT))), "history", 0)
        self.check(FREE, ("broken", ("within", LOG, 0), ("more", (PUT,) * 9)), "history", 4)

    def test_endless(self):
        cheap = log_with(0, 4, 6, 7, 6)
        dear = ((), (PUT,) * 4 + (READ,))
        self.check_content(
            LOG, "broken", ("within", cheap, 9), (("endless", dear), ()), (("endless", SHORT_RING), ("amount",)),
            (("endless", ((PUT,) * 5, (READ,))), ("road", 4)), (("endless", ((), (PUT,) * 5)), ("turn", 4)),
            (("endless", ((), (PUT,))), ("open",)), (("endless", ((PUT, READ), (PUT,) * 4 + (READ,))), ()),
            (("endless", ((PUT,) * 9, (PUT,) * 9)), ("road", 4)),
        )
        # It must come back in both houses.
        slow = ((3,), (0,), (((("when", 0, 0, 1, ("add", 0, 1)),),), ((),)))
        self.check(LOG, ("broken", ("within", slow, 9), ("endless", SHORT_RING)), "open")
        self.check(LOG, ("broken", ("within", slow, 9), ("endless", ((PUT, READ, PUT, READ), (PUT, READ)))))
        self.check(slow, ("broken", ("within", LOG, 9), ("endless", ((PUT, PUT), (PUT,)))), "open")
        self.check(cheap, ("broken", ("within", LOG, 9), ("endless", dear)), "amount")


class WinsTest(CheckerCase):
    def test_shown(self):
        plan = (1, ((1, (), (PUT, READ)),))
        self.check_content(
            LOG, "shown", ("wins", DEAR), (((1, 1), ((5, 0), 1), decide(LOG, ("fair", ((5, 0), 1)))[2], plan), ()),
            (((3, 2), FAIR, STOCKS, (1, ((1, (), (PUT, READ)), (1, (), (PUT, PUT, READ))))), ()),
            (((3, 2), FAIR, STOCKS[1:], plan), ("start",)), (((3, 2), FAIR, STOCKS[:1], plan), ("move", 0, 0, 0)),
            (((3, 2), FAIR, STOCKS, (1, ((1, (PUT,) * 5, (READ,)),))), ("part", 0, ("road", 4))),
            (((3, 2), FAIR, STOCKS, (1, plan[1] + ((1, (), (PUT,)),))), ("part", 1, ("open",))),
            (((3, 2), FAIR, STOCKS, (1, plan[1] * 3)), ("mix",)), (((3, 2), FAIR, STOCKS, plan), ("amount",)),
            (((3, 2), FAIR, STOCKS[1:], (1, plan[1] * 3)), ("start",)), (((3, 2), FAIR, STOCKS, (1, ())), ("amount",)),
            (((1, 0), ((0, 0), 1), STOCKS, plan), ("move", 0, 0, 0)),
        )
        # The other one pays just the sum: that is not more.
        self.check(LOG, ("shown", ("wins", LOG), ((3, 2), FAIR, STOCKS, PLAN)), "amount")
        # The plan's parts are done in the other house, where this move is barred.
        shut = LOG[:2] + (LOG[2][:1] + (((("only", 0, 0, 0),),),),)
        self.check(LOG, ("shown", ("wins", shut), ((3, 2), FAIR, STOCKS, PLAN)), "part", 0, ("turn", 1))

    def test_broken(self):
        cheap = log_with(0, 4, 6, 7, 6)
        paper = decide(LOG, ("wins", cheap))[2]
        corners, stocks_of, first, edges, last, others = paper
        self.check_content(
            LOG, "broken", ("wins", cheap), (paper, ()), (with_part(paper, 1, 3, ()), ("corner", 3, ("start",))),
            (with_part(paper, 3, 1, edges[0]), ("edge", 1, ("unjust",))),
            (with_part(paper, 5, 2, ()), ("other", 2, ("start",))),
            (with_part(paper, 5, 1, others[1][:1]), ("other", 1, ("move", 0, 0, 0))),
            (with_part(with_part(paper, 5, 0, ()), 3, 3, EMPTY_RING), ("edge", 3, ("unjust",))),
            (with_part(with_part(paper, 5, 0, ()), 1, 4, ()), ("corner", 4, ("start",))),
            (with_part(with_part(paper, 5, 0, ()), 5, 4, ()), ("other", 0, ("start",))),
            # Fewer corners, with all that belongs to them, are not the front.
            ((corners[1:], stocks_of[1:], EMPTY_RING, edges[1:], last, others[1:]), ("first", ("deeds",))),
            ((corners[:4], stocks_of[:4], first, edges[:3], ((), (PUT, READ)), others[:4]), ("last", ("deeds",))),
        )
        # Stocks of the other house are no stocks of the first one.
        self.check(LOG, ("broken", ("wins", DEAR), paper), "other", 0, ("move", 4, 1, 0))


class ProofTest(CheckerCase):
    """Whatever is accepted is a proof."""

    def test_certificates_of_decide(self):
        source = random.Random(113)
        sorts = {}
        for house in (LOG, WHEEL, FIVE, ROOMS, FREE, STUCK, BEHIND) + tuple(guarded_houses(113, 60)):
            for claim in some_claims(source, house):
                word, _, content = certificate = decide(house, claim)
                self.check(house, certificate)
                sorts[word, claim[0], content[0] if content and isinstance(content[0], str) else None] = True
        self.assertEqual(len(sorts), 7 + 1 + 3 + 2 + 2 + 2 + 2 + 1)

    def test_changed_certificates(self):
        source = random.Random(114)
        faults, accepted = {}, 0
        houses = [LOG, WHEEL, FIVE, ROOMS, BEHIND, ROUND] + guarded_houses(114, 40) + many_houses(114, 20, ((2,), (3,), (2, 2)))
        for house in houses:
            for claim in some_claims(source, house):
                certificate = decide(house, claim)
                for _ in range(25):
                    value = changed(source, certificate)
                    if source.randrange(2) and isinstance(value, tuple):
                        value = changed(source, value)
                    fault = first_fault(house, value)
                    self.assertEqual(fault, plain_checker.first_fault(house, value), value)
                    if fault is None:
                        accepted += 1
                        self.assertEqual(value[0] == "shown", is_true(house, value[1]), value)
                    else:
                        faults[fault[0]] = faults.get(fault[0], 0) + 1
        self.assertGreater(accepted, 200)
        self.assertGreater(min(faults.values()), 3, faults)
        self.assertEqual(sorted(faults), sorted((
            "form", "claim", "start", "number", "move", "road", "turn", "open", "paid", "history", "counts", "amount",
            "part", "mix", "sum", "corner", "first", "edge", "last", "other",
        )))

    def test_edited_houses(self):
        source = random.Random(115)
        accepted = {"shown": 0, "broken": 0}
        houses = [LOG, FIVE, ROOMS, WHEEL] + guarded_houses(115, 60)
        for house in houses:
            others = [other for other in houses if len(other[2]) == len(house[2]) and other[0] == house[0]]
            for claim in some_claims(source, house):
                certificate = decide(house, claim)
                for _ in range(4):
                    deeds = list(house[2])
                    deed = source.randrange(len(deeds))
                    deeds[deed] = source.choice(others)[2][deed]
                    edited = house[:2] + (tuple(deeds),)
                    self.check_edited(edited, certificate, accepted)
        self.assertGreater(min(accepted.values()), 50)

    def check_edited(self, house, certificate, accepted):
        fault = first_fault(house, certificate)
        self.assertEqual(fault, plain_checker.first_fault(house, certificate))
        if fault is None:
            accepted[certificate[0]] += 1
            self.assertEqual(certificate[0], decide(house, certificate[1])[0])


class CallsTest(CheckerCase):
    def test_calls(self):
        source = random.Random(116)
        for house in (LOG, LARGE, COUNTER) + LARGE_PAIRS[:2] + tuple(rich_houses(116, 3, 3)):
            for claim in some_claims(source, house):
                certificate = decide(house, claim)
                self.assertIsNone(self.check_calls(first_fault, [("house", house), ("certificate", certificate)]))
        long = ("broken", ("within", round_in_15(13), 3), decide(round_in_23(20), ("within", round_in_15(13), 3))[2])
        self.assertIsNone(self.check_calls(first_fault, [("house", round_in_23(20)), ("certificate", long)]))

    def test_values_that_are_not_modified(self):
        for value in (["shown", ("fair", FAIR), STOCKS], ("shown", ["fair", FAIR], [STOCKS]), ("shown", ("fair", FAIR), [1]),
                      ("broken", ("fair", UNFAIR), ((), [PUT, READ])), {"shown": [1, 2]}):
            self.check_calls(first_fault, [("house", LOG), ("certificate", value)])

    def test_long_histories_in_many_places(self):
        start = time.monotonic()
        corners = front(COUNTER)
        stocks_of, first, edges, last = decide(COUNTER, ("front", corners))[2]
        # Each road goes round before it starts, and each turn goes round many times.
        wide = tuple((turn * (10000 // len(turn)) + road, turn * (10000 // len(turn))) for road, turn in edges)
        wide = tuple((road[-10000 + (10000 % 24):], turn) if len(road) > 10000 else (road, turn) for road, turn in wide)
        told = first_fault(COUNTER, ("shown", ("front", corners), (stocks_of, first, wide, last)))
        self.assertIsNone(told)
        plan = (BILLION, ((1, (READ,) * 10000, (PUT, READ) * 5000),) * 6)
        self.assertEqual(first_fault(LOG, ("broken", ("worth", (3, 2), 0, 1), ("more", plan))), None)
        self.assertLess(time.monotonic() - start, 2 * SOME_SECONDS)


def len_of(value):
    return len(value) if isinstance(value, tuple) else None


if __name__ == "__main__":
    unittest.main()
