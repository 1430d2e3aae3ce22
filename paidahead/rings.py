"""Roads to a content, with turns that come back to it."""

from paidahead.histories import are_moves, walked
from paidahead.values import is_row


def is_ring(house, value):
    """Tell whether value, which may be any value, is a ring of the house."""
    if not (is_row(value, 2, 2) and are_moves(house, value[0]) and are_moves(house, value[1])):
        return False
    road, turn = value
    start = walked(house, house[1], road)
    if start is None or turn == ():
        return False
    end = walked(house, start[0], turn)
    return end is not None and end[0] == start[0]


def turned(house, ring):
    """Return (counts, paid) of a ring, which are those of its turn."""
    road, turn = ring
    start = walked(house, house[1], road)
    end = walked(house, start[0], turn)
    return end[1], end[2]
