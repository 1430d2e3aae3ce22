"""Claims about a house, and certificates that decide them."""

from paidahead.commons import both_begins
from paidahead.errors import InvalidClaim
from paidahead.forms import is_claim
from paidahead.fronts import front, front_rings, mix_of
from paidahead.mosts import best_steps, most_history
from paidahead.pairs import excess_history, excess_ring, excess_walks
from paidahead.plans import best_plan
from paidahead.rings import turned
from paidahead.stocks import need_of, needing, needs
from paidahead.tariffs import short_ring
from paidahead.wins import lost_corner
from paidahead.worths import best_tariff, worth


def require_claim(house, claim):
    """Raise InvalidClaim if claim, which may be any value, is no claim, or not valid for the house."""
    if not is_claim(house, claim):
        raise InvalidClaim()


def decide(house, claim):
    """Return a certificate (word, claim, content) that the checker accepts."""
    require_claim(house, claim)
    answer = ANSWERS[claim[0]]
    parts = claim[1:]
    word, content = answer(house, *parts)
    return word, claim, content


def _decide_fair(house, tariff):
    ring = short_ring(house, tariff)
    return ("shown", needs(house, tariff)) if ring is None else ("broken", ring)


def _decide_need(house, tariff, number):
    ring = short_ring(house, tariff)
    if ring is not None:
        return "broken", ("endless", ring)
    need = need_of(house, tariff, house[1])
    if need < number:
        return "broken", ("less", needs(house, tariff))
    history = needing(house, tariff, house[1])
    if need > number:
        return "broken", ("more", history)
    return "shown", (needs(house, tariff), history)


def _decide_worth(house, mix, p, q):
    paid, lots = worth(house, mix)
    if paid * q > p * lots:
        return "broken", ("more", best_plan(house, mix))
    tariff = best_tariff(house, mix)
    stocks = needs(house, tariff)
    if paid * q < p * lots:
        return "broken", ("less", tariff, stocks)
    return "shown", (tariff, stocks, best_plan(house, mix))


def _decide_front(house, corners):
    for k, corner in enumerate(corners):
        ring = short_ring(house, corner)
        if ring is not None:
            return "broken", ("short", k, ring)
    true_corners = front(house)
    # Fair tariffs that bend cannot stand beside all corners and be none themselves: so if all are there, these are all.
    for k, corner in enumerate(true_corners):
        if corner not in corners:
            return "broken", ("below", mix_of(true_corners, k), corner, needs(house, corner))
    return "shown", _front_papers(house, corners)


def _front_papers(house, corners):
    """Return (stocks_of, first, edges, last) for all corners of the house."""
    return (_needs_of_all(house, corners),) + front_rings(house)


def _needs_of_all(house, tariffs):
    return tuple([needs(house, tariff) for tariff in tariffs])


def _decide_most(house, limits, number):
    steps = best_steps(house, limits)
    most = steps[house[1], limits][0]
    if most > number:
        return "broken", ("more", most_history(house, limits))
    table = tuple([(content, left, steps[content, left][0]) for content, left in sorted(steps)])
    if most < number:
        return "broken", ("less", table)
    return "shown", (most_history(house, limits), table)


def _decide_within(house, other, number):
    walks = excess_walks(house, other)
    if walks is None:
        return "broken", ("endless", excess_ring(house, other))
    if walks[both_begins(house, other)][0] > number:
        return "broken", ("more", excess_history(house, other))
    return "shown", tuple([(content, beside, walks[content, beside][0]) for content, beside in sorted(walks)])


def _decide_wins(house, other):
    lost = lost_corner(house, other)
    if lost is None:
        corners = front(house)
        return "broken", (corners,) + _front_papers(house, corners) + (_needs_of_all(other, corners),)
    corner, ring = lost
    mix = turned(other, ring)[0]
    plan = (1, ((1,) + ring,))
    return "shown", (mix, corner, needs(house, corner), plan)


ANSWERS = {
    "fair": _decide_fair,
    "need": _decide_need,
    "worth": _decide_worth,
    "front": _decide_front,
    "most": _decide_most,
    "within": _decide_within,
    "wins": _decide_wins,
}
