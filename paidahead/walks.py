"""The histories that cost most beyond what a tariff charges for them."""

from paidahead.graphs import unchained


def best_walks(graph, starts, tariff):
    """Return (best, growing).

    best has for each place (amount, chain) of a walk to it from one of the starts: amount is the greatest of
    q times payment less charge. growing is empty if that is so. Else a ring in the graph is not paid; then a walk
    in growing has as many moves as there are places, and more than each walk of fewer moves to where it leads.
    """
    best = {place: (0, None) for place in starts}
    growing = {place: best[place] for place in best}
    rounds = 0
    while growing and rounds < len(graph):
        growing = _longer(graph, tariff, best, growing)
        best.update(growing)
        rounds += 1
    return best, growing


def _longer(graph, tariff, best, growing):
    """Return the walks that are better than the best ones, by one move behind one that grew the last time.

    A walk that did not grow the last time has been lengthened before: that cannot be better now.
    """
    prices, q = tariff
    found = {}
    for place, (amount, chain) in growing.items():
        for move, after, paid in graph[place]:
            more = amount + q * paid - prices[move[0]]
            known = found.get(after) or best.get(after)
            if known is None or more > known[0]:
                found[after] = (more, (chain, move))
    return found


def unpaid_ring(graph, begin, tariff):
    """Return a ring that the tariff does not pay, or None; the graph is that from begin."""
    growing = best_walks(graph, (begin,), tariff)[1]
    if not growing:
        return None
    # Without the ring that it closes, the walk would have fewer moves, hence less: so the ring has more than 0.
    chain = max(list(growing.values()), key=lambda walk: walk[0])[1]
    return _first_ring(graph, begin, unchained(chain)[::-1])


def _first_ring(graph, begin, history):
    """Return the ring that is closed first in a list of moves from begin, which closes one."""
    place = begin
    indexes = {}
    for at, move in enumerate(history):
        indexes[place] = at
        place = _next_place(graph[place], move)
        if place in indexes:
            break
    start = indexes[place]
    return tuple(history[:start]), tuple(history[start:len(indexes)])


def _next_place(lines, move):
    """Return the place to which a move leads that stands in these lines."""
    return [after for known, after, _ in lines if known == move][0]
