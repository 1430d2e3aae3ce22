"""Which claims are valid, and which are true, as the document says it, in the plain way."""

from fractions import Fraction
from functools import lru_cache
from math import gcd

from paidahead.houses import is_house
from paidahead.mosts import most
from paidahead.pairs import excess
from paidahead.stocks import needs
from paidahead.tariffs import is_fair
from paidahead.worths import worth
from tests import oracles

TRILLION = 10 ** 12


def is_integer(value, low, high):
    return type(value) is int and low <= value <= high


def is_tuple(value, many):
    return type(value) is tuple and len(value) == many


def is_tariff(house, value):
    if not (is_tuple(value, 2) and is_tuple(value[0], len(house[2])) and is_integer(value[1], 1, 10 ** 6)):
        return False
    return all(is_integer(price, 0, 10 ** 9) for price in value[0]) and gcd(value[1], *value[0]) == 1


def is_mix(house, value):
    return is_tuple(value, len(house[2])) and all(is_integer(part, 0, 100) for part in value) and sum(value) > 0


def are_limits(house, value):
    if not (is_tuple(value, len(house[2])) and all(is_integer(part, 0, 10 ** 30) for part in value)):
        return False
    return len(house[2]) and _product([part + 1 for part in value]) <= 200


def _product(numbers):
    found = 1
    for number in numbers:
        found *= number
    return found


def are_corners(house, value):
    if len(house[2]) != 2 or type(value) is not tuple or not 1 <= len(value) <= 180:
        return False
    if not all(is_tariff(house, corner) for corner in value):
        return False
    points = [oracles.quotients(corner) for corner in value]
    if not all(x < x1 and y > y1 for (x, y), (x1, y1) in zip(points, points[1:])):
        return False
    # All of the corners that stand between two others lie below the line through them.
    return all(
        (y1 - y) / (x1 - x) < (y2 - y1) / (x2 - x1) for (x, y), (x1, y1), (x2, y2) in zip(points, points[1:], points[2:])
    )


def is_valid(house, claim):
    if type(claim) is not tuple or not claim or type(claim[0]) is not str:
        return False
    word, parts, many = claim[0], claim[1:], len(claim) - 1
    if word == "fair":
        return many == 1 and is_tariff(house, parts[0])
    if word == "need":
        return many == 2 and is_tariff(house, parts[0]) and is_integer(parts[1], 0, TRILLION)
    if word == "worth":
        if not (many == 3 and is_mix(house, parts[0]) and is_integer(parts[1], 0, TRILLION)):
            return False
        return is_integer(parts[2], 1, 10 ** 6) and gcd(parts[1], parts[2]) == 1
    if word == "front":
        return many == 1 and are_corners(house, parts[0])
    if word == "most":
        return many == 2 and are_limits(house, parts[0]) and is_integer(parts[1], 0, 10 ** 9)
    if word not in ("within", "wins") or many != (2 if word == "within" else 1):
        return False
    if not (is_house(parts[0]) and len(parts[0][2]) == len(house[2])):
        return False
    if word == "wins":
        return len(house[2]) == 2
    return all(len(deed) == 1 for deed in parts[0][2]) and is_integer(parts[1], 0, 10 ** 6)


def is_true(house, claim):
    """Tell whether a valid claim is true."""
    word = claim[0]
    if word == "fair":
        return is_fair(house, claim[1])
    if word == "need":
        told = needs(house, claim[1])
        return told is not None and dict(told)[house[1]] == claim[2]
    if word == "worth":
        return worth(house, claim[1]) == claim[2:]
    if word == "front":
        return is_front(house, claim[1])
    if word == "most":
        return most(house, claim[1]) == claim[2]
    if word == "within":
        more = excess(house, claim[1])
        return more is not None and more <= claim[2]
    # If a house wins any mix, then one that has the numbers of a ring that comes to no content twice.
    return any(worth_of(house, mix) < worth_of(claim[1], mix) for mix in mixes_up_to(24))


@lru_cache(None)
def worth_of(house, mix):
    return Fraction(*worth(house, mix))


def mixes_up_to(most_parts):
    return [(a, b) for a in range(most_parts + 1) for b in range(most_parts + 1 - a) if gcd(a, b) == 1]


def is_front(house, corners):
    """The front has the worth of each mix, and by some mix each corner alone has it."""
    if not all(is_fair(house, corner) for corner in corners):
        return False
    points, alone = [oracles.quotients(corner) for corner in corners], set()
    for a, b in mixes_up_to(48):
        sums = [a * x + b * y for x, y in points]
        if min(sums) != worth_of(house, (a, b)):
            return False
        if a and b and sums.count(min(sums)) == 1:
            alone.add(sums.index(min(sums)))
    return len(alone) == len(corners)
