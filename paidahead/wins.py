"""Mixes for which a house is cheaper than another one."""

from paidahead.fronts import front, require_two_deeds
from paidahead.rings import turned
from paidahead.tariffs import short_ring


def winning_mix(house, other):
    """Return a mix of which the house's worth is less than the other's; None if there is none."""
    require_two_deeds(house)
    require_two_deeds(other)
    lost = lost_corner(house, other)
    # By the counts of that ring, the corner has a lesser sum than what the ring pays. The ring comes to no content
    # twice, so that they are numbers of a mix.
    return None if lost is None else turned(other, lost[1])[0]


def lost_corner(house, other):
    """Return (corner, ring): a corner of the house, and a ring of the other one that it does not pay; or None."""
    for corner in front(house):
        ring = short_ring(other, corner)
        if ring is not None:
            return corner, ring
    return None
