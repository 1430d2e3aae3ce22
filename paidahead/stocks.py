"""What stock a tariff needs, and what of it is surely there."""

from paidahead.errors import Unfair
from paidahead.graphs import backward, graph_from, unchained
from paidahead.walks import best_walks


def needs(house, tariff):
    """Return the tuple of (content, need) for the contents come to; None if the tariff is not fair."""
    walks = _walks_from_all(house, tariff, house[1])
    if walks is None:
        return None
    return tuple([(content, walks[content][0]) for content in sorted(walks)])


def need_of(house, tariff, content):
    """Return the need of any content; None if it is endless."""
    walks = _walks_from_all(house, tariff, content)
    return None if walks is None else walks[content][0]


def needing(house, tariff, content):
    """Return a history from a content come to that has its need."""
    walks = _walks_from_all(house, tariff, house[1])
    if walks is None:
        raise Unfair()
    # These walks grew backward, so that the newest move is the first one.
    return tuple(unchained(walks[content][1]))


def sure(house, tariff, *, start):
    """Return the tuple of (content, sure) for the contents come to, with this stock at begin."""
    need = need_of(house, tariff, house[1])
    if need is None or start < need:
        raise Unfair()
    walks = _walks_from_begin(house, tariff)
    return tuple([(content, start - walks[content][0]) for content in sorted(walks)])


def spending(house, tariff, content):
    """Return a history from begin to a content come to, by which just what is sure is left there."""
    walks = _walks_from_begin(house, tariff)
    if walks is None:
        raise Unfair()
    return tuple(reversed(unchained(walks[content][1])))


def _walks_from_begin(house, tariff):
    """Return for each content come to the best walk from begin to it; None if the tariff is not fair."""
    best, growing = best_walks(graph_from(house, house[1]), (house[1],), tariff)
    return None if growing else best


def _walks_from_all(house, tariff, start):
    """Return for each content to which histories from start lead the best walk from it; None if a need is endless."""
    graph = graph_from(house, start)
    best, growing = best_walks(backward(graph), tuple(graph), tariff)
    return None if growing else best
