"""Plans of rings, and what they pay within a mix."""

from paidahead.bases import best_basis
from paidahead.quotients import lowest
from paidahead.rings import turned


def best_plan(house, mix):
    """Return a plan within the mix that pays the worth, of at most as many parts as deeds; (1, ()) if it is 0."""
    basis = best_basis(house, mix)
    taken = []
    # A ring gets into a basis only where it pays something: so none is taken where the worth is 0.
    for row, column in zip(basis.rows, basis.columns):
        if row[0] > 0 and column[2] is not None:
            taken.append((row[0], column[2]))
    numbers = lowest([basis.scale] + [times for times, _ in taken])
    return numbers[0], tuple([(times, ring[0], ring[1]) for times, (_, ring) in zip(numbers[1:], taken)])


def plan_pays(house, plan):
    """Return what a plan pays, as (p, q) in lowest terms."""
    lots, parts = plan
    paid = sum([times * turned(house, (road, turn))[1] for times, road, turn in parts])
    return lowest((paid, lots))


def is_within(house, plan, mix):
    """Tell whether the plan has of each deed at most what the mix has of it in so many lots."""
    lots, parts = plan
    left = [lots * number for number in mix]
    for times, road, turn in parts:
        counts = turned(house, (road, turn))[0]
        left = [number - times * count for number, count in zip(left, counts)]
    return all([number >= 0 for number in left])
