import random
import unittest

from paidahead.checker import first_fault
from paidahead.claims import decide
from paidahead.errors import Barred, InvalidClaim, InvalidHouse, InvalidStock, InvalidTariff, LimitExceeded, Short
from paidahead.errors import UnknownCheckpoint, UnknownDeed, UnknownHouse, UnknownRecord
from paidahead.houses import require_house
from paidahead.moves import done
from paidahead.streets import Street
from paidahead.worths import best_tariff
from tests import oracles
from tests.cases import ANY, Case, deep
from tests.samples import BEHIND, FIVE, FREE, LARGE, LOG, PUT, READ, ROOMS, ROUND, SHUT, STUCK, WHEEL
from tests.samples import guarded_houses, log_with, many_houses, rich_houses
from tests.test_houses import OTHERS
from tests.test_tariffs import lowest_terms, some_tariff

FAIR, UNFAIR = ((3, 2), 1), ((1, 1), 1)
MOST_AMOUNT = 900000000000

# What is no number of anything.
NONE = (
    -1, True, False, None, "", "0", "a" * 1000, (), (0,), [], [0], {}, {0: 0}, 10 ** 29, -(10 ** 29), [[1], {2: (3,)}],
    ((0, 0), 1, 1), deep(12), ((), (True,)), LOG, tuple(range(1000)),
)


def state(street):
    """All that a street tells, as it is now."""
    many = range(len(street.houses()))
    return (
        street.houses(), street.tariff(), street.purse(), street.paid(), len(street), street.forecast(),
        street.records(), tuple(street.content(which) for which in many), tuple(street.counts(which) for which in many),
        tuple(street.recorded(number) for number in range(street.records())),
        tuple(street.standing(number) for number in range(street.records())),
    )


class StreetCase(Case):
    def check_raises(self, error, kept, call, *arguments, **named):
        """The call raises just this error, which keeps what is told, if anything."""
        with self.assertRaises(error) as caught:
            call(*arguments, **named)
        self.assertIs(type(caught.exception), error)
        for name, value in kept.items():
            self.assertEqual(getattr(caught.exception, name), value)
            self.assertIs(type(getattr(caught.exception, name)), type(value))

    def check_refused(self, street, error, kept, name, *arguments):
        """The method raises the error, and nothing changes."""
        before, arguments_before = state(street), repr(arguments)
        self.check_raises(error, kept, getattr(street, name), *arguments)
        self.assertEqual(state(street), before)
        self.assertEqual(repr(arguments), arguments_before)

    def check_invalid_house(self, part, houses, tariff=FAIR, **stock):
        self.check_raises(InvalidHouse, {"part": part}, Street, houses, tariff, **stock)


class NewStreetTest(StreetCase):
    def test_right_ones(self):
        for many in (1, 2, 3, 4):
            street = Street((LOG, FREE, ROOMS, FIVE)[:many], FAIR)
            self.assertEqual(street.houses(), (LOG, FREE, ROOMS, FIVE)[:many])
            self.assertEqual((len(street), street.purse(), street.paid(), street.records()), (0, 0, 0, 0))
            self.assertEqual(street.tariff(), FAIR)
            for which in range(many):
                self.assertEqual((street.content(which), street.counts(which)), ((0,), (0, 0)))
        self.assertEqual(Street((LARGE,) * 4, ((1, 2, 3), 7)).counts(3), (0, 0, 0))
        self.assertEqual(Street((SHUT,), ((2,), 1)).content(0), (1,))

    def test_no_tuple_of_houses(self):
        for houses in ((), (LOG,) * 5, [LOG], None, {0: LOG}, "LOG", 1, True, []):
            self.check_invalid_house(None, houses)
        for value in ANY:
            if not (isinstance(value, tuple) and 1 <= len(value) <= 4):
                self.check_invalid_house(None, value)

    def test_the_first_house_that_is_none(self):
        for value, part in (
            (None, None), ((), None), (list(LOG), None), (LOG[:2], None), (((), (0,), LOG[2]), ("sizes",)),
            (((9,), (0,), LOG[2]), ("sizes",)), (((5,), (5,), LOG[2]), ("begin",)),
            (((5,), (True,), LOG[2]), ("begin",)),
            (((5,), (0,), (PUT, ((("pay", 0),),))), ("deed", 1)), (((5,), (0,), ((), READ)), ("deed", 0)),
            (((5,), (0,), (None, None)), ("deed", 0)), (((5,), (0,), (PUT, READ, PUT, READ)), None),
        ):
            self.check_invalid_house(part, (value,))
            self.check_invalid_house(part, (LOG, value, LOG))
            self.check_invalid_house(part, (LOG, LOG, LOG, value))
            self.check_invalid_house(part, (ROUND, value, ((7,), (9,), 3)))

    def test_not_as_many_deeds(self):
        for houses in ((LOG, WHEEL), (LOG, LOG, LOG, ROUND), (ROUND, LOG), (WHEEL, WHEEL, ROUND)):
            self.check_invalid_house(("deeds",), houses)
        # A house that is none comes first.
        self.check_invalid_house(("begin",), (LOG, WHEEL, ((5,), (5,), LOG[2])))

    def test_no_tariff(self):
        for tariff in (((2, 4), 2), ((3,), 1), ((3, 2, 1), 1), None, [(3, 2), 1], ((3, True), 1), ((3, 2), 0), FAIR + (1,)):
            self.check_raises(InvalidTariff, {}, Street, (LOG,), tariff)
            self.check_raises(InvalidTariff, {}, Street, (LOG,), tariff, stock=-1)
            self.check_invalid_house(("deeds",), (LOG, ROUND), tariff, stock=-1)
        for value in ANY:
            self.check_raises(InvalidTariff, {}, Street, (LOG,), value)
            self.check_invalid_house(None, (LOG, value), value, stock=value)

    def test_stock(self):
        for stock in (0, 1, 7, MOST_AMOUNT - 1, MOST_AMOUNT):
            self.assertEqual(Street((LOG,), FAIR, stock=stock).purse(), stock)
        for stock in (-1, MOST_AMOUNT + 1, True, False, None, "0", (0,), [0], 10 ** 29, {}):
            self.check_raises(InvalidStock, {}, Street, (LOG,), FAIR, stock=stock)

    def test_arguments(self):
        street = Street(houses=(LOG,), tariff=FAIR, stock=3)
        self.assertEqual((street.houses(), street.tariff(), street.purse()), ((LOG,), FAIR, 3))
        with self.assertRaises(TypeError):
            Street((LOG,), FAIR, 3)


class DoTest(StreetCase):
    def test_what_is_paid(self):
        street = Street((LOG,), FAIR)
        self.assertEqual((street.do(0, 0, 0), street.purse(), street.content(0), street.forecast()), (1, 2, (1,), 2))
        self.assertEqual((street.do(0, 0, 0), street.purse(), street.content(0), street.forecast()), (1, 4, (2,), 4))
        self.assertEqual((street.do(0, 1, 0), street.purse(), street.content(0), street.forecast()), (6, 0, (0,), 0))
        self.assertEqual((street.paid(), len(street), street.counts(0)), (8, 3, (2, 1)))
        self.assertEqual(street.do(which=0, deed=0, way=0), 1)

    def test_parts_of_one(self):
        street = Street((WHEEL,), ((10,), 3), stock=5)
        self.assertEqual([street.do(0, 0, 0), street.purse(), street.do(0, 0, 0), street.purse()], [1, 12, 1, 19])
        self.assertEqual((street.do(0, 0, 1), street.purse(), street.paid()), (8, 5, 10))

    def test_one_purse_for_all_houses(self):
        street = Street((LOG, LOG, FREE), FAIR)
        street.do(0, 0, 0)
        street.do(2, 1, 0)
        self.assertEqual(street.do(1, 1, 0), 0)
        self.assertEqual((street.purse(), street.paid(), len(street)), (6, 1, 3))
        self.assertEqual([street.counts(which) for which in range(3)], [(1, 0), (0, 1), (0, 1)])
        self.assertEqual([street.content(which) for which in range(3)], [(1,), (0,), (0,)])

    def test_unknown_houses(self):
        street = Street((LOG, LOG), FAIR)
        street.do(1, 0, 0)
        for which in NONE + (2,):
            self.check_refused(street, UnknownHouse, {"index": which}, "do", which, 0, 0)
            self.check_refused(street, UnknownHouse, {"index": which}, "do", which, 9, None)
            for name in ("content", "counts", "go_home"):
                self.check_refused(street, UnknownHouse, {"index": which}, name, which)
            for name in ("decide", "record"):
                self.check_refused(street, UnknownHouse, {"index": which}, name, which, ("fair", FAIR))
                self.check_refused(street, UnknownHouse, {"index": which}, name, which, None)
            self.check_refused(street, UnknownHouse, {"index": which}, "set_deed", which, 0, PUT)
            self.check_refused(street, UnknownHouse, {"index": which}, "set_deed", which, 7, None)

    def test_barred(self):
        street = Street((LOG, WHEEL[:2] + (WHEEL[2] * 2,)), FAIR, stock=100)
        for deed, way in [(deed, 0) for deed in NONE + (2,)] + [(0, way) for way in NONE + (1,)] + [(1, 1), (2, 2)]:
            self.check_refused(street, Barred, {}, "do", 0, deed, way)
        self.check_refused(street, Barred, {}, "do", 1, 0, 1)
        for _ in range(4):
            street.do(0, 0, 0)
        self.check_refused(street, Barred, {}, "do", 0, 0, 0)

    def test_short(self):
        for stock in (0, 1, 2, 3):
            street = Street((LOG,), UNFAIR, stock=stock)
            street.do(0, 0, 0)
            self.assertEqual(street.purse(), stock)
            if stock < 3:
                self.check_refused(street, Short, {}, "do", 0, 1, 0)
            else:
                self.assertEqual((street.do(0, 1, 0), street.purse()), (4, 0))
        # Barred comes ahead of short.
        self.check_refused(Street((BEHIND,), ((0,), 1)), Barred, {}, "do", 0, 0, 1)
        self.check_refused(Street((BEHIND,), ((0,), 1)), Short, {}, "do", 0, 0, 0)

    def test_short_in_parts_of_one(self):
        street = Street((SHUT,), ((1999999,), 1000000), stock=2)
        self.assertEqual([street.do(0, 0, 0), street.do(0, 0, 0), street.purse()], [2, 2, 0])
        self.check_refused(street, Short, {}, "do", 0, 0, 0)


class ForecastTest(StreetCase):
    def test_known(self):
        street = Street((LOG, LOG), FAIR)
        for which, forecast in ((0, 2), (1, 4), (0, 6), (0, 7), (0, 7)):
            street.do(which, 0, 0)
            self.assertEqual(street.forecast(), forecast)
        self.assertEqual(Street((BEHIND,), ((7,), 1)).forecast(), 129)
        self.assertEqual(Street((BEHIND,) * 4, ((7,), 1)).forecast(), 4 * 129)

    def test_endless(self):
        self.assertIsNone(Street((LOG,), UNFAIR).forecast())
        self.assertIsNone(Street((FREE, LOG), UNFAIR).forecast())
        self.assertIsNone(Street((LOG, FREE), UNFAIR).forecast())
        self.assertEqual(Street((FREE, FREE), UNFAIR).forecast(), 0)

    def test_a_room_from_which_the_dear_ring_is_not_come_to(self):
        # The ring that is not paid is in the other room.
        street = Street((ROOMS,), ((4, 5), 1), stock=100)
        self.assertIsNone(street.forecast())
        street.do(0, 0, 1)
        self.assertEqual((street.content(0), street.forecast()), ((2,), 0))

    def test_contents_that_histories_from_begin_no_longer_lead_to(self):
        street = Street((LOG,), FAIR)
        for _ in range(3):
            street.do(0, 0, 0)
        # Nothing but begin is come to now, and in the content where the house stands a read pays more than ever.
        street.set_deed(0, 0, ((("only", 0, 0, 0), ("pay", 1)),))
        street.set_deed(0, 1, ((("only", 0, 3, 3), ("pay", 9), ("set", 0, 4)),))
        self.assertEqual(street.forecast(), 7)
        street.set_deed(0, 1, ((("only", 0, 3, 3), ("pay", 9)),))
        self.assertIsNone(street.forecast())
        street.go_home(0)
        self.assertEqual(street.forecast(), 0)

    def spend(self, street, history):
        """Tell whether the history, moves with the house in front, can be done without being short."""
        try:
            for which, (deed, way) in history:
                street.do(which, deed, way)
        except Short:
            return False
        return True

    def dear_history(self, street):
        """A row of moves that takes the forecast from the purse, or ever more if it is endless."""
        found = []
        for which, house in enumerate(street.houses()):
            history = dear_history(house, street.tariff(), street.content(which))
            found.extend((which, move) for move in history)
        return found

    def check_forecast(self, houses, tariff, source):
        street = Street(houses, tariff, stock=MOST_AMOUNT)
        for _ in range(source.randrange(6)):
            which = source.randrange(len(houses))
            lines = list(oracles.moves(houses[which], street.content(which)))
            if lines:
                street.do(which, *source.choice(lines)[0])
        forecast = street.forecast()
        needs = [all_needs(house, tariff, street.content(which)) for which, house in enumerate(houses)]
        contents = [street.content(which) for which in range(len(houses))]
        expected = None if None in needs else sum(known[content] for known, content in zip(needs, contents))
        self.assertEqual(forecast, expected)
        if forecast is not None:
            history = self.dear_history(street)
            for less in (0, 1):
                other = standing_street(street, forecast - less)
                if other is not None:
                    self.assertEqual(self.spend(other, history), less == 0)
            self.check_no_row_is_short(standing_street(street, forecast), source)
        return forecast is None

    def check_no_row_is_short(self, street, source):
        for _ in range(60):
            which = source.randrange(len(street.houses()))
            house, content = street.houses()[which], street.content(which)
            lines = oracles.moves(house, content)
            if lines:
                # The dearest way, mostly.
                line = max(lines, key=lambda line: line[2] - street.tariff()[0][line[0][0]])
                street.do(which, *(line if source.randrange(3) else source.choice(lines))[0])
                self.assertGreaterEqual(street.purse(), street.forecast())

    def test_forecasts(self):
        source = random.Random(121)
        houses = [LOG, FIVE, ROOMS, FREE, WHEEL, BEHIND, ROUND] + guarded_houses(121, 60) + many_houses(121, 60)
        endless = 0
        for house in houses:
            others = [other for other in houses if len(other[2]) == len(house[2])]
            street = (house,) + tuple(source.choice(others) for _ in range(source.randrange(3)))
            endless += self.check_forecast(street, some_tariff(source, house), source)
            endless += self.check_forecast((house, house), best_tariff(house, (1,) * len(house[2])), source)
        self.assertGreater(endless, 10)
        self.assertLess(endless, 100)

    def test_endless_ones_are_short_some_time(self):
        street = Street((LOG,), UNFAIR, stock=100)
        self.assertFalse(self.spend(street, [(0, (0, 0)), (0, (1, 0))] * 50))


def all_needs(house, tariff, content):
    """The needs of all contents to which histories from this one lead, in the plain way; None if one is endless."""
    prices, q = tariff
    lines = {place: oracles.moves(house, place) for place in oracles.reached(house, content)}
    known = {place: 0 for place in lines}
    for _ in range(len(known) + 1):
        before = dict(known)
        for place in known:
            for (deed, _), after, paid in lines[place]:
                known[place] = max(known[place], q * paid - prices[deed] + before[after])
        if known == before:
            return known
    return None


def dear_history(house, tariff, content):
    """A history from this content that loses its need, which is not endless."""
    prices, q = tariff
    known = all_needs(house, tariff, content)
    histories = {content: []}
    waiting = [content]
    for place in waiting:
        if known[place] == 0:
            return histories[place]
        for move, after, paid in oracles.moves(house, place):
            if q * paid - prices[move[0]] + known[after] == known[place] and after not in histories:
                histories[after] = histories[place] + [move]
                waiting.append(after)


def standing_street(street, purse):
    """A street whose houses stand in the same contents, with this purse; None if that cannot be."""
    if purse < 0:
        return None
    houses = tuple(
        (sizes, street.content(which), deeds) for which, (sizes, _, deeds) in enumerate(street.houses())
    )
    return Street(houses, street.tariff(), stock=purse)


class EditsTest(StreetCase):
    def test_set_tariff(self):
        street = Street((LOG,), ((7, 5), 3), stock=10)
        self.assertIsNone(street.set_tariff(((5, 1), 2)))
        self.assertEqual((street.tariff(), street.purse()), (((5, 1), 2), 6))
        street.set_tariff(((1, 1), 1000000))
        self.assertEqual(street.purse(), 3000000)
        street.set_tariff(((1, 1), 7))
        self.assertEqual(street.purse(), 21)
        street.set_tariff(tariff=((1, 1), 7))
        self.assertEqual(street.purse(), 21)

    def test_the_purse_is_rounded_down(self):
        for q, q_after, stock, expected in (
            (3, 2, 2, 1), (3, 2, 1, 0), (3, 1, 2, 0), (3, 1, 3, 1), (1, 3, 5, 15), (7, 3, 100, 42),
            (1000000, 1, 999999, 0), (1000000, 999999, MOST_AMOUNT, 899999100000),
            (1, 1000000, MOST_AMOUNT, MOST_AMOUNT * 1000000),
        ):
            street = Street((LOG,), ((1, 1), q), stock=stock)
            street.set_tariff(((1, 0), q_after))
            self.assertEqual(street.purse(), expected)

    def test_no_tariff(self):
        street = Street((LOG, LOG), FAIR, stock=3)
        for tariff in (((2, 4), 2), ((3,), 1), [(3, 2), 1], ((3, True), 1), ((3, 2), 0)) + NONE:
            self.check_refused(street, InvalidTariff, {}, "set_tariff", tariff)

    def test_set_deed(self):
        street = Street((LOG, LOG), FAIR)
        dear = ((("toll", 0, (9, 9, 9, 9, 9)),), (("set", 0, 0),))
        self.assertIsNone(street.set_deed(1, 1, dear))
        self.assertEqual(street.houses(), (LOG, ((5,), (0,), (PUT, dear))))
        street.do(1, 0, 0)
        self.assertIsNone(street.set_deed(which=1, index=0, deed=dear[1:]))
        self.assertEqual(street.houses()[1], require_house(((5,), (0,), (dear[1:], dear))))
        self.assertEqual((street.content(1), street.counts(1), street.paid(), len(street)), ((1,), (1, 0), 1, 1))
        self.assertEqual(street.do(1, 1, 1), 0)
        self.check_refused(street, Short, {}, "do", 1, 1, 0)
        self.assertEqual(street.content(1), (0,))

    def test_what_set_deed_refuses(self):
        street = Street((LOG, LOG), FAIR)
        for index in NONE + (2, 3):
            self.check_refused(street, UnknownDeed, {"index": index}, "set_deed", 0, index, PUT)
            self.check_refused(street, UnknownDeed, {"index": index}, "set_deed", 0, index, None)
        for deed in OTHERS + ((), ((),) * 4, [()], ((("pay", 0),),), ((("set", 1, 0),),), ((("set", 0, 5),),), PUT[0]) + NONE:
            for index in (0, 1):
                self.check_refused(street, InvalidHouse, {"part": ("deed", index)}, "set_deed", 1, index, deed)

    def test_go_home(self):
        street = Street((LOG, SHUT[:2] + (SHUT[2] * 2,)), FAIR)
        street.do(0, 0, 0)
        street.do(0, 0, 0)
        self.assertIsNone(street.go_home(0))
        self.assertEqual((street.content(0), street.content(1), street.purse(), street.counts(0)), ((0,), (1,), 4, (2, 0)))
        self.assertIsNone(street.go_home(which=1))
        self.assertEqual((street.content(1), len(street), street.paid()), ((1,), 2, 2))

    def test_pay_in(self):
        street = Street((LOG,), UNFAIR)
        for amount in (0, 1, 2, MOST_AMOUNT, MOST_AMOUNT):
            before = street.purse()
            self.assertIsNone(street.pay_in(amount))
            self.assertEqual(street.purse(), before + amount)
        street.pay_in(amount=5)
        for amount in (MOST_AMOUNT + 1,) + NONE:
            self.check_refused(street, InvalidStock, {}, "pay_in", amount)


class CheckpointTest(StreetCase):
    def test_restore(self):
        street = Street((LOG, LOG), FAIR, stock=1)
        street.do(0, 0, 0)
        self.assertEqual(street.checkpoint(), 0)
        street.do(0, 0, 0)
        street.do(1, 0, 0)
        street.set_deed(1, 1, PUT)
        street.set_tariff(((7, 5), 2))
        street.pay_in(50)
        self.assertEqual(street.checkpoint(), 1)
        later = street.houses(), street.tariff(), street.purse(), street.content(0), street.content(1)
        self.assertIsNone(street.restore(0))
        self.assertEqual((street.houses(), street.tariff(), street.purse()), ((LOG, LOG), FAIR, 3))
        self.assertEqual((street.content(0), street.content(1)), ((1,), (0,)))
        # These go on.
        self.assertEqual((len(street), street.paid(), street.counts(0), street.counts(1)), (3, 3, (2, 0), (1, 0)))
        street.do(0, 1, 0)
        self.assertIsNone(street.restore(number=1))
        self.assertEqual((street.houses(), street.tariff(), street.purse(), street.content(0), street.content(1)), later)
        self.assertEqual((len(street), street.paid(), street.counts(0)), (4, 7, (2, 1)))
        street.restore(1)
        street.restore(0)
        street.restore(0)
        self.assertEqual((street.houses(), street.tariff(), street.purse()), ((LOG, LOG), FAIR, 3))
        self.assertEqual(len(street), 4)

    def test_at_most_four(self):
        street = Street((LOG,), FAIR)
        for number in range(4):
            self.assertEqual(street.checkpoint(), number)
            street.do(0, 0, 0)
        self.check_refused(street, LimitExceeded, {"limit": 4}, "checkpoint")
        for number in (0, 3, 0, 2):
            street.restore(number)
            self.assertEqual(street.content(0), (number,))
            self.check_refused(street, LimitExceeded, {"limit": 4}, "checkpoint")

    def test_unknown_ones(self):
        street = Street((LOG,), FAIR)
        for number in (0,) + NONE:
            self.check_refused(street, UnknownCheckpoint, {"number": number}, "restore", number)
        street.checkpoint()
        for number in (1,) + NONE:
            self.check_refused(street, UnknownCheckpoint, {"number": number}, "restore", number)


class RecordTest(StreetCase):
    def test_decide(self):
        street = Street((LOG, FREE), FAIR)
        street.do(0, 0, 0)
        for which, claim in ((0, ("fair", FAIR)), (0, ("need", FAIR, 0)), (1, ("fair", UNFAIR)), (0, ("wins", FREE))):
            certificate = street.decide(which, claim)
            self.assertEqual(certificate, decide((LOG, FREE)[which], claim))
            self.assertIsNone(first_fault((LOG, FREE)[which], certificate))
        self.assertEqual(street.decide(which=0, claim=("most", (1, 1), 5))[0], "shown")
        self.assertEqual((street.records(), len(street)), (0, 1))
        for claim in (("fair", ((2, 4), 2)), ["fair", FAIR], ("within", ROOMS, 1)) + NONE:
            self.check_refused(street, InvalidClaim, {}, "decide", 0, claim)
            self.check_refused(street, InvalidClaim, {}, "record", 0, claim)

    def test_record(self):
        street = Street((LOG, FREE), FAIR)
        self.assertEqual(street.record(0, ("fair", FAIR)), 0)
        self.assertEqual(street.record(which=1, claim=("fair", ((0, 0), 1))), 1)
        self.assertEqual(street.records(), 2)
        self.assertEqual(street.recorded(0), (0, decide(LOG, ("fair", FAIR))))
        self.assertEqual(street.recorded(number=1), (1, decide(FREE, ("fair", ((0, 0), 1)))))
        self.assertEqual((street.standing(0), street.standing(number=1)), (None, None))

    def test_records_stand_and_fall_with_edits(self):
        street = Street((FREE, LOG), FAIR)
        street.record(1, ("fair", FAIR))
        street.record(1, ("fair", UNFAIR))
        street.record(1, ("worth", (3, 2), 13, 1))
        self.assertEqual([street.standing(number) for number in range(3)], [None] * 3)
        self.assertEqual([street.recorded(number)[1][0] for number in range(3)], ["shown", "broken", "shown"])
        street.checkpoint()
        # Nothing but edits of the house itself counts.
        street.do(1, 0, 0)
        street.set_tariff(((9, 9), 2))
        street.pay_in(7)
        street.set_deed(0, 1, ((("pay", 99),),))
        self.assertEqual([street.standing(number) for number in range(3)], [None] * 3)
        street.set_deed(1, 1, log_with(0, 0, 0, 0, 9)[2][1])
        self.assertEqual(street.standing(0), ("move", 4, 1, 0))
        self.assertEqual(street.standing(1), ("paid",))
        self.assertEqual(street.standing(2), ("move", 4, 1, 0))
        street.set_deed(1, 1, log_with(0, 4, 6, 7, 8)[2][1])
        self.assertEqual((street.standing(0)[0], street.standing(1)), ("move", None))
        street.set_deed(1, 0, ((("add", 0, 1), ("pay", 1)),) * 2)
        street.set_deed(1, 1, READ)
        self.assertEqual([street.standing(number) for number in range(3)], [None] * 3)
        street.restore(0)
        self.assertEqual([street.standing(number) for number in range(3)], [None] * 3)
        self.assertEqual(street.records(), 3)

    def test_moves_that_are_no_more(self):
        street = Street((WHEEL,), ((10,), 3))
        street.record(0, ("fair", ((3,), 1)))
        street.set_deed(0, 0, WHEEL[2][0][:1])
        self.assertEqual(street.standing(0), ("form",))
        street.set_deed(0, 0, WHEEL[2][0])
        self.assertIsNone(street.standing(0))

    def test_the_begin_counts_wherever_the_house_stands(self):
        street = Street((BEHIND,), ((7,), 1), stock=200)
        street.do(0, 0, 0)
        street.record(0, ("need", ((7,), 1), 129))
        self.assertEqual((street.recorded(0)[1][0], street.standing(0), street.forecast()), ("shown", None, 86))

    def test_records_go_on(self):
        street = Street((LOG,), FAIR)
        street.checkpoint()
        street.record(0, ("fair", FAIR))
        street.set_deed(0, 1, PUT)
        street.record(0, ("fair", FAIR))
        before = [street.recorded(number) for number in range(2)]
        street.restore(0)
        self.assertEqual((street.records(), [street.recorded(number) for number in range(2)]), (2, before))
        self.assertIsNone(street.standing(0))

    def test_at_most_eight(self):
        street = Street((LOG,), FAIR)
        for number in range(8):
            self.assertEqual(street.record(0, ("most", (number, 1), 5)), number)
        self.assertEqual(street.records(), 8)
        # The limit comes ahead of the other errors.
        for which, claim in ((0, ("fair", FAIR)), (5, ("fair", FAIR)), (0, None), (None, None)):
            self.check_refused(street, LimitExceeded, {"limit": 8}, "record", which, claim)
        self.check_refused(street, UnknownHouse, {"index": 5}, "decide", 5, None)
        self.check_refused(street, InvalidClaim, {}, "decide", 0, None)

    def test_unknown_ones(self):
        street = Street((LOG,), FAIR)
        for name in ("recorded", "standing"):
            for number in (0,) + NONE:
                self.check_refused(street, UnknownRecord, {"number": number}, name, number)
        street.record(0, ("fair", FAIR))
        for name in ("recorded", "standing"):
            for number in (1,) + NONE:
                self.check_refused(street, UnknownRecord, {"number": number}, name, number)

    def test_what_is_returned_cannot_be_changed_from_outside(self):
        street = Street((LOG,), FAIR)
        street.record(0, ("fair", FAIR))
        for value in (street.houses(), street.tariff(), street.content(0), street.counts(0), street.recorded(0)):
            self.assertIs(type(value), tuple)
            hash(value)


def low_tariff(source):
    """A tariff of two prices that are often too low."""
    q = source.choice((1, 2, 3, 7))
    return lowest_terms((source.randrange(3 * q), source.randrange(2 * q)), q)


class Model:
    """A street in the plain way, without errors: a call that would raise one is not made."""

    def __init__(self, houses, tariff, stock):
        self.houses, self.tariff, self.purse = list(houses), tariff, stock
        self.contents = [house[1] for house in houses]
        self.counts = [[0] * len(house[2]) for house in houses]
        self.paid, self.many, self.kept = 0, 0, []


class ModelTest(StreetCase):
    def check_same(self, street, model):
        self.assertEqual(street.houses(), tuple(model.houses))
        self.assertEqual((street.tariff(), street.purse(), street.paid()), (model.tariff, model.purse, model.paid))
        self.assertEqual(len(street), model.many)
        for which, counts in enumerate(model.counts):
            self.assertEqual((street.content(which), street.counts(which)), (model.contents[which], tuple(counts)))

    def do(self, street, model, told, which, deed, way):
        house = model.houses[which]
        after = done(house, model.contents[which], (deed, way)) if way < len(house[2][deed]) else None
        if after is None:
            self.check_refused(street, Barred, {}, "do", which, deed, way)
            told["barred"] += 1
            return
        purse = model.purse + model.tariff[0][deed] - model.tariff[1] * after[1]
        if purse < 0:
            self.check_refused(street, Short, {}, "do", which, deed, way)
            told["short"] += 1
            return
        told["done"] += 1
        self.assertEqual(street.do(which, deed, way), after[1])
        model.purse, model.paid, model.many = purse, model.paid + after[1], model.many + 1
        model.contents[which] = after[0]
        model.counts[which][deed] += 1

    def edit(self, source, street, model, houses):
        which, kind = source.randrange(len(model.houses)), source.randrange(6)
        if kind == 0:
            tariff = low_tariff(source)
            street.set_tariff(tariff)
            model.purse, model.tariff = model.purse * tariff[1] // model.tariff[1], tariff
        elif kind == 1:
            deed = source.randrange(len(model.houses[0][2]))
            other = source.choice([house for house in houses if house[0] == model.houses[which][0]])[2][deed]
            street.set_deed(which, deed, other)
            sizes, begin, deeds = model.houses[which]
            model.houses[which] = (sizes, begin, deeds[:deed] + (other,) + deeds[deed + 1:])
        elif kind == 2:
            street.go_home(which)
            model.contents[which] = model.houses[which][1]
        elif kind == 3:
            amount = source.choice((0, 1, 10))
            street.pay_in(amount)
            model.purse += amount
        elif kind == 4 and len(model.kept) < 4:
            self.assertEqual(street.checkpoint(), len(model.kept))
            model.kept.append((list(model.houses), list(model.contents), model.tariff, model.purse))
        elif model.kept:
            number = source.randrange(len(model.kept))
            street.restore(number)
            houses_then, contents_then, model.tariff, model.purse = model.kept[number]
            model.houses, model.contents = list(houses_then), list(contents_then)

    def test_long_histories(self):
        source = random.Random(122)
        houses = [house for house in [LOG, FIVE, ROOMS, FREE] + guarded_houses(122, 60) if len(house[2]) == 2]
        told = {"barred": 0, "short": 0, "done": 0}
        for _ in range(40):
            row = tuple(source.choice(houses) for _ in range(source.randrange(1, 5)))
            tariff, stock = low_tariff(source), source.choice((0, 5, 100))
            street, model = Street(row, tariff, stock=stock), Model(row, tariff, stock)
            for _ in range(120):
                if source.randrange(4):
                    self.do(street, model, told, source.randrange(len(row)), source.randrange(2), source.randrange(3))
                else:
                    self.edit(source, street, model, houses)
                self.check_same(street, model)
        self.assertGreater(min(told.values()), 50, told)


class CallsTest(StreetCase):
    def test_the_largest_houses(self):
        houses = (LARGE,) + tuple(rich_houses(123, 3, 3))
        street = Street(houses, best_tariff(LARGE, (3, 2, 5)), stock=MOST_AMOUNT)
        for which in range(4):
            self.check_calls(street.content, [("which", which)])
            self.check_calls(street.decide, [("which", which), ("claim", ("most", (4, 4, 7), 500))])
        self.check_calls(street.forecast, [])
        for number in range(8):
            street.record(number % 4, ("worth", (1, number, 3), 50, 7))
        for number in range(8):
            self.assertIsNone(self.check_calls(street.standing, [("number", number)]))
        for _ in range(2000):
            street.do(0, 0, 1)
        self.assertEqual((len(street), street.counts(0)), (2000, (2000, 0, 0)))

    def test_stuck(self):
        street = Street((STUCK,), FAIR)
        for deed in (0, 1):
            self.check_refused(street, Barred, {}, "do", 0, deed, 0)
        self.assertEqual(street.forecast(), 0)


if __name__ == "__main__":
    unittest.main()
