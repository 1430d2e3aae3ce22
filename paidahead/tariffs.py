"""What a tariff is, and whether it is fair."""

from paidahead.errors import InvalidTariff
from paidahead.graphs import graph_from
from paidahead.quotients import divisor, lowest
from paidahead.values import is_number, is_row
from paidahead.walks import unpaid_ring

MOST_PRICE = 1000000000
MOST_Q = 1000000


def require_tariff(house, value):
    """Return value, which may be any value, or raise InvalidTariff if it is no tariff of the house."""
    if not is_tariff(house, value):
        raise InvalidTariff()
    return value


def is_tariff(house, value):
    """Tell whether value, which may be any value, is a tariff of the house."""
    if not (is_row(value, 2, 2) and _are_prices(house, value[0]) and is_number(value[1], 1, MOST_Q)):
        return False
    prices, q = value
    return divisor(prices + (q,)) == 1


def charge(tariff, counts):
    """Return the sum of count times price, in parts of 1 / q."""
    return sum([price * count for price, count in zip(tariff[0], counts)])


def sum_by(tariff, mix):
    """Return the sum of the tariff by a mix, as (p, q) in lowest terms."""
    return lowest((charge(tariff, mix), tariff[1]))


def is_fair(house, tariff):
    """Tell whether the tariff pays all rings."""
    return short_ring(house, tariff) is None


def short_ring(house, tariff):
    """Return a ring that the tariff does not pay, or None."""
    return unpaid_ring(graph_from(house, house[1]), house[1], tariff)


def _are_prices(house, value):
    many = len(house[2])
    return is_row(value, many, many) and all([is_number(part, 0, MOST_PRICE) for part in value])
