"""Moves that are done in two houses at once; the second house has one way alone for each deed.

The places of their graphs are pairs of contents. What a line pays is the payment of the first house less that of the
other one, which may be below 0.
"""

from paidahead.graphs import graph_from, spread


def common_graph(house, other):
    """Return the graph of the pairs of contents to which common histories lead from both begins."""
    mine = graph_from(house, house[1])
    theirs = graph_from(other, other[1])
    return spread(both_begins(house, other), lambda pair: common_lines(mine[pair[0]], theirs[pair[1]]))


def both_begins(house, other):
    """Return the pair of contents from which common histories start."""
    return house[1], other[1]


def common_lines(mine, theirs):
    """Return the lines of the common moves, by the lines of a content of each house."""
    steps = {move: (after, paid) for move, after, paid in theirs}
    found = []
    for move, after, paid in mine:
        if (move[0], 0) in steps:
            beside, less = steps[move[0], 0]
            found.append((move, (after, beside), paid - less))
    return tuple(found)
