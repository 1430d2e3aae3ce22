"""The least sum that a fair tariff can have by a mix."""

from paidahead.bases import best_basis
from paidahead.quotients import lowest


def worth(house, mix):
    """Return the least sum by the mix of all fair tariffs, as (p, q) in lowest terms."""
    basis = best_basis(house, mix)
    return lowest((basis.pays(), basis.scale))


def best_tariff(house, mix):
    """Return a fair tariff whose sum by the mix is the worth."""
    basis = best_basis(house, mix)
    numbers = lowest(basis.prices() + (basis.scale,))
    return numbers[:-1], numbers[-1]
