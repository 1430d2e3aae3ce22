"""All least tariffs of a house of two deeds, corner by corner."""

from paidahead.errors import TwoDeeds
from paidahead.plans import best_plan
from paidahead.quotients import lowest
from paidahead.tariffs import sum_by
from paidahead.worths import best_tariff

# A ring that comes to no content twice has at most 24 moves: so by these mixes the first and the last corner,
# whatever they just pay, have a lesser sum than all others.
FIRST_MIX = (100, 1)
LAST_MIX = (1, 100)


def front(house):
    """Return the tuple of all corners, ascending by the first price."""
    require_two_deeds(house)
    found = [best_tariff(house, FIRST_MIX)]
    last = best_tariff(house, LAST_MIX)
    ahead = [] if last == found[0] else [last]
    while ahead:
        mix = mix_between(found[-1], ahead[-1])
        corner = best_tariff(house, mix)
        # If none has a lesser sum by this mix, then there is no corner between the two.
        if sum_by(corner, mix) == sum_by(found[-1], mix):
            found.append(ahead.pop())
        else:
            ahead.append(corner)
    return tuple(found)


def front_rings(house):
    """Return (first, edges, last): rings that the first corner, each two neighbours, and the last one just pay."""
    corners = front(house)
    first, last = corners[0][0], corners[-1][0]
    edges = [_dear_ring(house, mix_between(corner, after)) for corner, after in zip(corners, corners[1:])]
    return (
        None if first[0] == 0 else _dear_ring(house, (1, 0)),
        tuple(edges),
        None if last[1] == 0 else _dear_ring(house, (0, 1)),
    )


def require_two_deeds(house):
    """Raise TwoDeeds unless the house has two deeds."""
    if len(house[2]) != 2:
        raise TwoDeeds()


def mix_between(corner, after):
    """Return the mix by which two corners, the first one having the lesser first price, have the same sum."""
    (x, y), q = corner
    (x_after, y_after), q_after = after
    return lowest((y * q_after - y_after * q, x_after * q - x * q_after))


def mix_of(corners, k):
    """Return a mix by which corner k of a front has a lesser sum than all others."""
    before = (1, 0) if k == 0 else mix_between(corners[k - 1], corners[k])
    behind = (0, 1) if k == len(corners) - 1 else mix_between(corners[k], corners[k + 1])
    # Between the mixes by which it shares the least sum with a neighbour, or with dearer tariffs at an end.
    return before[0] + behind[0], before[1] + behind[1]


def _dear_ring(house, mix):
    """Return a ring that all fair tariffs of the least sum by the mix just pay; the worth is not 0."""
    # Each part of a best plan is just paid by them: were it more than paid, their sum would be more than the worth.
    _, road, turn = best_plan(house, mix)[1][0]
    return road, turn
