"""The most that histories pay, with at most so many moves of each deed."""

from paidahead.graphs import graph_from
from paidahead.values import replaced, rows_below


def most(house, limits):
    """Return the greatest payment of all histories from begin with at most so many moves of each deed."""
    return best_steps(house, limits)[house[1], limits][0]


def most_history(house, limits):
    """Return such a history that pays the most."""
    steps = best_steps(house, limits)
    _, move, after = steps[house[1], limits]
    history = []
    while move is not None:
        history.append(move)
        _, move, after = steps[after]
    return tuple(history)


def best_steps(house, limits):
    """Return a dict: for (content, left) the most from there, the first move for it, and the (content, left) behind it.

    It has all contents come to, with all numbers of moves left. Move is None where the most is 0.
    """
    graph = graph_from(house, house[1])
    steps = {}
    # A move takes one from what is left: so what is behind it comes earlier in this order.
    for left in rows_below([limit + 1 for limit in limits]):
        for content, lines in graph.items():
            steps[content, left] = _best_step(lines, left, steps)
    return steps


def one_less(left, deed):
    """Return how many moves are left behind one of this deed."""
    return replaced(left, deed, left[deed] - 1)


def _best_step(lines, left, steps):
    best = (0, None, None)
    for move, content, paid in lines:
        if left[move[0]] > 0:
            after = (content, one_less(left, move[0]))
            number = paid + steps[after][0]
            if number > best[0]:
                best = (number, move, after)
    return best
