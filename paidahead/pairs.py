"""How much dearer one house can come than another one, if the same deeds are done to both."""

from paidahead.commons import both_begins, common_graph
from paidahead.graphs import backward, unchained
from paidahead.walks import best_walks, unpaid_ring


def excess(house, other):
    """Return the greatest payment of the house less that of the other one over all common histories; or None."""
    walks = excess_walks(house, other)
    return None if walks is None else walks[both_begins(house, other)][0]


def excess_history(house, other):
    """Return a common history that has the excess, or None if it is endless."""
    walks = excess_walks(house, other)
    if walks is None:
        return None
    # These walks grew backward, so that the newest move is the first one.
    return tuple(unchained(walks[both_begins(house, other)][1]))


def excess_ring(house, other):
    """Return a common (road, turn) that comes back in both houses, with more paid by the house; or None."""
    return unpaid_ring(common_graph(house, other), both_begins(house, other), _nothing(house))


def excess_walks(house, other):
    """Return for each pair of contents come to the best walk from it to any one; None if the excess is endless."""
    graph = common_graph(house, other)
    best, growing = best_walks(backward(graph), tuple(graph), _nothing(house))
    return None if growing else best


def _nothing(house):
    """Return a tariff that charges nothing: what counts here is the payment alone."""
    return (0,) * len(house[2]), 1
