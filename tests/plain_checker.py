"""The checker, written once more in the plain way: each thing that must hold is asked in its turn."""

from fractions import Fraction

from paidahead.houses import contents
from paidahead.moves import done, moves
from tests.verdicts import are_corners, is_integer, is_mix, is_tariff, is_tuple, is_valid


class Fault(Exception):
    def __init__(self, *fault):
        Exception.__init__(self, fault)
        self.fault = fault


def first_fault(house, certificate):
    try:
        _check(house, certificate)
    except Fault as error:
        return error.fault
    return None


def ask(holds, *fault):
    if not holds:
        raise Fault(*fault)


def _check(house, certificate):
    ask(is_tuple(certificate, 3), "form")
    word, claim, content = certificate
    ask(is_valid(house, claim), "claim")
    ask(type(word) is str and word in ("shown", "broken"), "form")
    ask(FORMS[word, claim[0]](house, claim, content), "form")
    CHECKS[word, claim[0]](house, claim, content)


# Forms.

def is_history(house, value):
    if type(value) is not tuple or len(value) > 10000:
        return False
    known = {(deed, way) for deed, ways in enumerate(house[2]) for way in range(len(ways))}
    for move in value:
        if not (is_tuple(move, 2) and type(move[0]) is int and type(move[1]) is int and move in known):
            return False
    return True


def is_round(house, value):
    return is_tuple(value, 2) and is_history(house, value[0]) and is_history(house, value[1]) and len(value[1]) > 0


def is_place(house, value):
    if not is_tuple(value, len(house[0])):
        return False
    return all(type(part) is int for part in value) and value in contents(house)


def is_rising(keys):
    return all(key < after for key, after in zip(keys, keys[1:]))


def is_stocks(house, value):
    if type(value) is not tuple:
        return False
    for entry in value:
        if not (is_tuple(entry, 2) and is_place(house, entry[0]) and is_integer(entry[1], 0, 10 ** 12)):
            return False
    return is_rising([entry[0] for entry in value])


def is_most_table(house, limits, value):
    if type(value) is not tuple:
        return False
    for entry in value:
        if not (is_tuple(entry, 3) and is_place(house, entry[0]) and is_tuple(entry[1], len(limits))):
            return False
        if not all(is_integer(left, 0, limit) for left, limit in zip(entry[1], limits)):
            return False
        if not is_integer(entry[2], 0, 10 ** 9):
            return False
    return is_rising([(entry[0], entry[1]) for entry in value])


def is_common_table(house, other, value):
    if type(value) is not tuple:
        return False
    for entry in value:
        if not (is_tuple(entry, 3) and is_place(house, entry[0]) and is_place(other, entry[1])):
            return False
        if not is_integer(entry[2], 0, 10 ** 9):
            return False
    return is_rising([(entry[0], entry[1]) for entry in value])


def is_plan(house, value):
    if not (is_tuple(value, 2) and is_integer(value[0], 1, 10 ** 9) and type(value[1]) is tuple and len(value[1]) <= 6):
        return False
    for part in value[1]:
        if not (is_tuple(part, 3) and is_integer(part[0], 1, 10 ** 9) and is_round(house, (part[1], part[2]))):
            return False
    return True


def is_front_paper(house, corners, value):
    if not (is_tuple(value, 4) and is_tuple(value[0], len(corners)) and is_tuple(value[2], len(corners) - 1)):
        return False
    if not all(is_stocks(house, stocks) for stocks in value[0]) or not all(is_round(house, ring) for ring in value[2]):
        return False
    for price, ring in ((corners[0][0][0], value[1]), (corners[-1][0][1], value[3])):
        if not (ring is None if price == 0 else is_round(house, ring)):
            return False
    return True


def one_of(value, **forms):
    """Tell whether value begins with one of the words, and the parts behind it have the forms of that word."""
    if type(value) is not tuple or not value or type(value[0]) is not str or value[0] not in forms:
        return False
    kinds = forms[value[0]]
    return len(value) == len(kinds) + 1 and all(kind(part) for kind, part in zip(kinds, value[1:]))


def all_of(value, *kinds):
    return is_tuple(value, len(kinds)) and all(kind(part) for kind, part in zip(kinds, value))


def kinds_of(house):
    return {
        "stocks": lambda value: is_stocks(house, value), "history": lambda value: is_history(house, value),
        "ring": lambda value: is_round(house, value), "plan": lambda value: is_plan(house, value),
        "tariff": lambda value: is_tariff(house, value), "mix": lambda value: is_mix(house, value),
    }


def form_need_broken(house, claim, value):
    kind = kinds_of(house)
    return one_of(value, endless=[kind["ring"]], less=[kind["stocks"]], more=[kind["history"]])


def form_worth_shown(house, claim, value):
    kind = kinds_of(house)
    return all_of(value, kind["tariff"], kind["stocks"], kind["plan"])


def form_worth_broken(house, claim, value):
    kind = kinds_of(house)
    return one_of(value, less=[kind["tariff"], kind["stocks"]], more=[kind["plan"]])


def form_front_broken(house, claim, value):
    kind = kinds_of(house)
    return one_of(
        value, short=[lambda k: is_integer(k, 0, len(claim[1]) - 1), kind["ring"]],
        below=[kind["mix"], kind["tariff"], kind["stocks"]],
    )


def form_wins_broken(house, claim, value):
    if not (is_tuple(value, 6) and are_corners(house, value[0])):
        return False
    if not (is_front_paper(house, value[0], value[1:5]) and is_tuple(value[5], len(value[0]))):
        return False
    return all(is_stocks(claim[1], stocks) for stocks in value[5])


FORMS = {
    ("shown", "fair"): lambda house, claim, value: is_stocks(house, value),
    ("broken", "fair"): lambda house, claim, value: is_round(house, value),
    ("shown", "need"): lambda house, claim, value: all_of(value, kinds_of(house)["stocks"], kinds_of(house)["history"]),
    ("broken", "need"): form_need_broken,
    ("shown", "worth"): form_worth_shown,
    ("broken", "worth"): form_worth_broken,
    ("shown", "front"): lambda house, claim, value: is_front_paper(house, claim[1], value),
    ("broken", "front"): form_front_broken,
    ("shown", "most"): lambda house, claim, value: all_of(
        value, kinds_of(house)["history"], lambda table: is_most_table(house, claim[1], table)),
    ("broken", "most"): lambda house, claim, value: one_of(
        value, less=[lambda table: is_most_table(house, claim[1], table)], more=[kinds_of(house)["history"]]),
    ("shown", "within"): lambda house, claim, value: is_common_table(house, claim[1], value),
    ("broken", "within"): lambda house, claim, value: one_of(
        value, more=[kinds_of(house)["history"]], endless=[kinds_of(house)["ring"]]),
    ("shown", "wins"): lambda house, claim, value: all_of(
        value, kinds_of(house)["mix"], kinds_of(house)["tariff"], kinds_of(house)["stocks"],
        kinds_of(claim[1])["plan"]),
    ("broken", "wins"): form_wins_broken,
}


# What must hold.

def follow(word, step, place, history):
    total = 0
    for at, move in enumerate(history):
        after = step(place, move)
        ask(after is not None, word, at)
        place, total = after[0], total + after[1]
    return place, total


def in_house(house):
    return lambda place, move: done(house, place, move)


def in_both(house, other):
    def step(places, move):
        mine, theirs = done(house, places[0], move), done(other, places[1], (move[0], 0))
        return None if mine is None or theirs is None else ((mine[0], theirs[0]), mine[1] - theirs[1])
    return step


def turn_round(step, begin, ring):
    """What the turn pays."""
    place, _ = follow("road", step, begin, ring[0])
    back, paid = follow("turn", step, place, ring[1])
    ask(back == place, "open")
    return paid


def count(house, history):
    return tuple(sum(move[0] == deed for move in history) for deed in range(len(house[2])))


def total_of(tariff, numbers):
    return sum(Fraction(price * number, tariff[1]) for price, number in zip(tariff[0], numbers))


def check_entries(table, first, lines, is_told=lambda number: True):
    known = dict(table)
    ask(first in known, "start")
    ask(is_told(known[first]), "number")
    for k, (place, number) in enumerate(table):
        for move, after, cost in lines(place):
            ask(after in known and known[after] <= number - cost, "move", k, move[0], move[1])


def check_stocks(house, tariff, stocks, is_told=lambda number: True):
    def lines(content):
        return [(move, after, tariff[1] * paid - tariff[0][move[0]]) for move, after, paid in moves(house, content)]
    check_entries(stocks, house[1], lines, is_told)


def check_most_table(house, limits, table, is_told):
    def lines(place):
        content, left = place
        for move, after, paid in moves(house, content):
            less = tuple(number - (deed == move[0]) for deed, number in enumerate(left))
            if min(less) >= 0:
                yield move, (after, less), paid
    check_entries([(entry[:2], entry[2]) for entry in table], (house[1], limits), lines, is_told)


def check_common_table(house, other, table, most):
    def lines(pair):
        for move, _, _ in moves(house, pair[0]):
            after = in_both(house, other)(pair, move)
            if after is not None:
                yield move, after[0], after[1]
    begins = house[1], other[1]
    check_entries([(entry[:2], entry[2]) for entry in table], begins, lines, lambda number: number <= most)


def check_unpaid(house, tariff, ring):
    paid = turn_round(in_house(house), house[1], ring)
    ask(total_of(tariff, count(house, ring[1])) < paid, "paid")


def loss(house, tariff, history):
    _, paid = follow("history", in_house(house), house[1], history)
    return tariff[1] * (paid - total_of(tariff, count(house, history)))


def limited(house, limits, history):
    _, paid = follow("history", in_house(house), house[1], history)
    ask(all(number <= limit for number, limit in zip(count(house, history), limits)), "counts")
    return paid


def plan_sum(house, mix, plan):
    lots, parts = plan
    used, total = [0] * len(mix), 0
    for j, (times, road, turn) in enumerate(parts):
        paid = under(("part", j), turn_round, in_house(house), house[1], (road, turn))
        used = [number + times * more for number, more in zip(used, count(house, turn))]
        total += times * paid
    ask(all(number <= lots * most for number, most in zip(used, mix)), "mix")
    return Fraction(total, lots)


def under(words, check, *arguments):
    try:
        return check(*arguments)
    except Fault as error:
        raise Fault(*words, error.fault) from error


def check_just_paid(house, ring, corners, without):
    paid = turn_round(in_house(house), house[1], ring)
    counts = count(house, ring[1])
    ask(all(counts[deed] == 0 for deed in without), "deeds")
    ask(all(total_of(corner, counts) == paid for corner in corners), "unjust")


def check_front(house, corners, paper):
    stocks_of, first, edges, last = paper
    for k, (corner, stocks) in enumerate(zip(corners, stocks_of)):
        under(("corner", k), check_stocks, house, corner, stocks)
    if first is not None:
        under(("first",), check_just_paid, house, first, corners[:1], (1,))
    for k, ring in enumerate(edges):
        under(("edge", k), check_just_paid, house, ring, corners[k:k + 2], ())
    if last is not None:
        under(("last",), check_just_paid, house, last, corners[-1:], (0,))


def check_need_shown(house, claim, content):
    check_stocks(house, claim[1], content[0], lambda number: number == claim[2])
    ask(loss(house, claim[1], content[1]) == claim[2], "amount")


def check_need_broken(house, claim, content):
    if content[0] == "endless":
        check_unpaid(house, claim[1], content[1])
    elif content[0] == "less":
        check_stocks(house, claim[1], content[1], lambda number: number < claim[2])
    else:
        ask(loss(house, claim[1], content[1]) > claim[2], "amount")


def check_worth_shown(house, claim, content):
    mix, told = claim[1], Fraction(*claim[2:])
    ask(total_of(content[0], mix) == told, "sum")
    check_stocks(house, content[0], content[1])
    ask(plan_sum(house, mix, content[2]) == told, "amount")


def check_worth_broken(house, claim, content):
    mix, told = claim[1], Fraction(*claim[2:])
    if content[0] == "less":
        ask(total_of(content[1], mix) < told, "sum")
        check_stocks(house, content[1], content[2])
    else:
        ask(plan_sum(house, mix, content[1]) > told, "amount")


def check_front_broken(house, claim, content):
    if content[0] == "short":
        check_unpaid(house, claim[1][content[1]], content[2])
    else:
        _, mix, tariff, stocks = content
        ask(all(total_of(corner, mix) > total_of(tariff, mix) for corner in claim[1]), "sum")
        check_stocks(house, tariff, stocks)


def check_most_shown(house, claim, content):
    ask(limited(house, claim[1], content[0]) == claim[2], "amount")
    check_most_table(house, claim[1], content[1], lambda number: number == claim[2])


def check_most_broken(house, claim, content):
    if content[0] == "less":
        check_most_table(house, claim[1], content[1], lambda number: number < claim[2])
    else:
        ask(limited(house, claim[1], content[1]) > claim[2], "amount")


def check_within_broken(house, claim, content):
    step, begins = in_both(house, claim[1]), (house[1], claim[1][1])
    if content[0] == "more":
        ask(follow("history", step, begins, content[1])[1] > claim[2], "amount")
    else:
        ask(turn_round(step, begins, content[1]) > 0, "amount")


def check_wins_shown(house, claim, content):
    mix, tariff, stocks, plan = content
    check_stocks(house, tariff, stocks)
    ask(plan_sum(claim[1], mix, plan) > total_of(tariff, mix), "amount")


def check_wins_broken(house, claim, content):
    check_front(house, content[0], content[1:5])
    for k, (corner, stocks) in enumerate(zip(content[0], content[5])):
        under(("other", k), check_stocks, claim[1], corner, stocks)


CHECKS = {
    ("shown", "fair"): lambda house, claim, content: check_stocks(house, claim[1], content),
    ("broken", "fair"): lambda house, claim, content: check_unpaid(house, claim[1], content),
    ("shown", "need"): check_need_shown,
    ("broken", "need"): check_need_broken,
    ("shown", "worth"): check_worth_shown,
    ("broken", "worth"): check_worth_broken,
    ("shown", "front"): lambda house, claim, content: check_front(house, claim[1], content),
    ("broken", "front"): check_front_broken,
    ("shown", "most"): check_most_shown,
    ("broken", "most"): check_most_broken,
    ("shown", "within"): lambda house, claim, content: check_common_table(house, claim[1], content, claim[2]),
    ("broken", "within"): check_within_broken,
    ("shown", "wins"): check_wins_shown,
    ("broken", "wins"): check_wins_broken,
}
