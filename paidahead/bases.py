"""The best plan and the best tariff for a mix, each proving the other one.

Plans within a mix and fair tariffs are the two sides of one linear program. It is solved by the simplex method:
a basis has as many columns as there are deeds, and tells a plan and prices, which just pay all of its columns.
As long as a price is below 0 or a ring is not paid, that column enters, and another one leaves.
"""

from paidahead.graphs import graph_from
from paidahead.rings import turned
from paidahead.walks import unpaid_ring


class Basis:
    """Columns are triples (counts, paid, ring); ring is None for a deed that is left over, which pays nothing.

    A row for each column has how much of it the plan takes, then what undoes the columns, all of them times scale:
    so all numbers are integers, and scale is above 0.
    """

    def __init__(self, mix):
        self.scale = 1
        self.columns = [left_over(len(mix), deed) for deed in range(len(mix))]
        self.rows = [[number] + list(column[0]) for number, column in zip(mix, self.columns)]

    def prices(self):
        """Return the prices, times scale, that just pay all columns; some may be below 0."""
        found = [0] * len(self.rows)
        for (_, paid, _), row in zip(self.columns, self.rows):
            found = [price + paid * number for price, number in zip(found, row[1:])]
        return tuple(found)

    def pays(self):
        """Return what the plan pays, times scale."""
        return sum([column[1] * row[0] for column, row in zip(self.columns, self.rows)])

    def enter(self, column):
        """Put the column in the place of another one."""
        weights = [sum([part * count for part, count in zip(row[1:], column[0])]) for row in self.rows]
        out = self._leaving(weights)
        pivot, taken = weights[out], self.rows[out]
        for at, (row, weight) in enumerate(zip(list(self.rows), weights)):
            if at != out:
                self.rows[at] = [(a * pivot - b * weight) // self.scale for a, b in zip(row, taken)]
        self.columns[out] = column
        self.scale = pivot

    def _leaving(self, weights):
        """Return the index of the column that is used up first.

        Rows are compared whole, not only by their first number: then no basis comes twice.
        """
        out = None
        for at, weight in enumerate(weights):
            if weight > 0 and (out is None or self._is_sooner(at, out, weights)):
                out = at
        return out

    def _is_sooner(self, at, other, weights):
        mine = [number * weights[other] for number in self.rows[at]]
        return mine < [number * weights[at] for number in self.rows[other]]


def left_over(many, deed):
    """Return the column of a deed that is left over, of so many deeds."""
    return tuple([1 if at == deed else 0 for at in range(many)]), 0, None


def best_basis(house, mix):
    """Return the basis whose plan pays most within the mix; its prices are a fair tariff's, with the least sum."""
    graph = graph_from(house, house[1])
    basis = Basis(mix)
    column = _better_column(house, graph, basis)
    while column is not None:
        basis.enter(column)
        column = _better_column(house, graph, basis)
    return basis


def _better_column(house, graph, basis):
    """Return a column that the prices do not pay; None if there is none."""
    prices = basis.prices()
    for deed, price in enumerate(prices):
        if price < 0:
            return left_over(len(prices), deed)
    ring = unpaid_ring(graph, house[1], (prices, basis.scale))
    if ring is None:
        return None
    counts, paid = turned(house, ring)
    return counts, paid, ring
