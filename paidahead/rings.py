"""Roads to a content, with turns that come back to it."""

from paidahead.histories import are_moves, walked
from paidahead.values import is_row


def is_ring(house, value):
    """Tell whether value, which may be any value, is a ring of the house."""
    if not has_ring_form(house, value):
        return False
    road, turn = value
    start = walked(house, house[1], road)
    if start is None:
        return False
    end = walked(house, start[0], turn)
    return end is not None and end[0] == start[0]


def has_ring_form(house, value):
    """Tell whether value, which may be any value, is a pair of rows of moves of the house, the second one not ()."""
    return is_row(value, 2, 2) and all([are_moves(house, part) for part in value]) and value[1] != ()


def turned(house, ring):
    """Return (counts, paid) of a ring, which are those of its turn."""
    road, turn = ring
    start = walked(house, house[1], road)
    end = walked(house, start[0], turn)
    return end[1], end[2]
