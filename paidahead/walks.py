"""The histories that cost most beyond what a tariff charges for them."""

from paidahead.graphs import unchained
from paidahead.moves import done


def best_walks(graph, starts, tariff):
    """Return (best, growing).

    best has for each content (amount, chain) of a walk to it from one of the starts: amount is the greatest of
    q times payment less charge. growing is empty if that is so. Else a ring in the graph is not paid; then a walk
    in growing has as many moves as there are contents, and more than each walk of fewer moves to where it leads.
    """
    best = {content: (0, None) for content in starts}
    growing = {content: best[content] for content in best}
    rounds = 0
    while growing and rounds < len(graph):
        growing = _longer(graph, tariff, best, growing)
        best.update(growing)
        rounds += 1
    return best, growing


def _longer(graph, tariff, best, growing):
    """Return the walks that are better than the best ones, by one move behind one that grew the last time.

    A walk that did not grow the last time has been lengthened before: that cannot be better now.
    """
    prices, q = tariff
    found = {}
    for content, (amount, chain) in growing.items():
        for move, after, paid in graph[content]:
            more = amount + q * paid - prices[move[0]]
            known = found.get(after) or best.get(after)
            if known is None or more > known[0]:
                found[after] = (more, (chain, move))
    return found


def unpaid_ring(house, graph, tariff):
    """Return a ring that the tariff does not pay, or None; the graph is that from begin."""
    growing = best_walks(graph, (house[1],), tariff)[1]
    if not growing:
        return None
    # Without the ring that it closes, the walk would have fewer moves, hence less: so the ring has more than 0.
    chain = max(list(growing.values()), key=lambda walk: walk[0])[1]
    return _first_ring(house, unchained(chain)[::-1])


def _first_ring(house, history):
    """Return the ring that is closed first in a list of moves from begin, which closes one."""
    place = house[1]
    places = []
    for move in history:
        places.append(place)
        place = done(house, place, move)[0]
        if place in places:
            break
    start = places.index(place)
    return tuple(history[:start]), tuple(history[start:len(places)])
