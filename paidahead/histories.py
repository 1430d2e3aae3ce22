"""Where histories lead, and what they pay."""

from paidahead.graphs import graph_from, way_between
from paidahead.moves import done, is_move
from paidahead.values import is_row

MOST_MOVES = 10000


def come_to(house):
    """Return the ascending tuple of the contents to which histories from begin lead."""
    return tuple(sorted(graph_from(house, house[1])))


def walked(house, content, history):
    """Return (content, counts, paid) of a tuple of moves of the house; None if one of them is barred."""
    counts = [0] * len(house[2])
    place = content
    total = 0
    for move in history:
        after = done(house, place, move)
        if after is None:
            return None
        place = after[0]
        total += after[1]
        counts[move[0]] += 1
    return place, tuple(counts), total


def road_to(house, content):
    """Return a history from begin to this content, of fewer moves than there are contents; or None."""
    return way_between(graph_from(house, house[1]), house[1], content)


def are_moves(house, value):
    """Tell whether value, which may be any value, is a tuple of moves of the house, no longer than a history."""
    return is_row(value, 0, MOST_MOVES) and all([is_move(house, part) for part in value])
