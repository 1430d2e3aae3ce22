"""Which values, of all that there may be, are claims that are valid for a house."""

from paidahead.houses import is_house
from paidahead.quotients import divisor
from paidahead.tariffs import is_tariff
from paidahead.values import is_number, is_row

MOST_STOCK = 1000000000000
MOST_PART = 100
MOST_P = 1000000000000
MOST_Q = 1000000
MOST_CORNERS = 180
MOST_LEFT = 200
MOST_PAID = 1000000000
MOST_EXCESS = 1000000

# How many parts a claim has, with its word.
SIZES = {"fair": 2, "need": 3, "worth": 4, "front": 2, "most": 3, "within": 3, "wins": 2}


def is_mix(house, value):
    """Tell whether value is a mix for the house."""
    many = len(house[2])
    return is_row(value, many, many) and all([is_number(part, 0, MOST_PART) for part in value]) and any(value)


def are_corners(house, value):
    """Tell whether value is a tuple of tariffs that ascend, descend and bend; the house has two deeds."""
    if not (is_row(value, 1, MOST_CORNERS) and all([is_tariff(house, part) for part in value])):
        return False
    if not all([_descends(corner, after) for corner, after in zip(value, value[1:])]):
        return False
    return all([_bends(corner, after, last) for corner, after, last in zip(value, value[1:], value[2:])])


def is_claim(house, value):
    """Tell whether value is a claim that is valid for the house."""
    if not (is_row(value, 2, 4) and isinstance(value[0], str) and value[0] in SIZES):
        return False
    word, parts = value[0], value[1:]
    if len(value) != SIZES[word]:
        return False
    is_valid = VALID[word]
    return is_valid(house, *parts)


def _is_fair_claim(house, tariff):
    return is_tariff(house, tariff)


def _is_need_claim(house, tariff, number):
    return is_tariff(house, tariff) and is_number(number, 0, MOST_STOCK)


def _is_worth_claim(house, mix, p, q):
    return is_mix(house, mix) and is_number(p, 0, MOST_P) and is_number(q, 1, MOST_Q) and divisor((p, q)) == 1


def _is_front_claim(house, corners):
    return len(house[2]) == 2 and are_corners(house, corners)


def _is_most_claim(house, limits, number):
    return _are_limits(house, limits) and is_number(number, 0, MOST_PAID)


def _is_within_claim(house, other, number):
    if not (_is_beside(house, other) and is_number(number, 0, MOST_EXCESS)):
        return False
    return all([len(deed) == 1 for deed in other[2]])


def _is_wins_claim(house, other):
    return len(house[2]) == 2 and _is_beside(house, other)


VALID = {
    "fair": _is_fair_claim,
    "need": _is_need_claim,
    "worth": _is_worth_claim,
    "front": _is_front_claim,
    "most": _is_most_claim,
    "within": _is_within_claim,
    "wins": _is_wins_claim,
}


def _is_beside(house, value):
    """Tell whether value is a house with as many deeds."""
    return is_house(value) and len(value[2]) == len(house[2])


def _are_limits(house, value):
    many = len(house[2])
    if not (is_row(value, many, many) and all([is_number(part, 0, MOST_LEFT - 1) for part in value])):
        return False
    product = 1
    for part in value:
        product = product * (part + 1)
    return product <= MOST_LEFT


def _gains(corner, after):
    """Return by how much both prices of two tariffs differ, times the one q and the other."""
    (x, y), q = corner
    (x_after, y_after), q_after = after
    return x_after * q - x * q_after, y_after * q - y * q_after


def _descends(corner, after):
    x, y = _gains(corner, after)
    return x > 0 and y < 0


def _bends(corner, after, last):
    x, y = _gains(corner, after)
    x_last, y_last = _gains(corner, last)
    # Both products are by the same q's: so they compare as the quotients do.
    return x * y_last > x_last * y
