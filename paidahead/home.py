"""Houses that come home, and histories that go round all parts of a plan."""

from paidahead.errors import NotHome, TooLong
from paidahead.graphs import graph_from, way_between
from paidahead.histories import walked

MOST_TURNED = 9000


def strays(house):
    """Return the ascending tuple of the contents come to from which no history leads to begin."""
    graph = graph_from(house, house[1])
    return tuple([content for content in sorted(graph) if way_between(graph, content, house[1]) is None])


def comes_home(house):
    """Tell whether no content strays."""
    return strays(house) == ()


def home_road(house, content):
    """Return a history from any content to begin, or None."""
    return way_between(graph_from(house, content), content, house[1])


def round_all(house, plan, *, laps):
    """Return a history from begin to begin that goes round each part of the plan laps times its times in a row."""
    if not comes_home(house):
        raise NotHome()
    parts = plan[1]
    # Counted ahead of all else: what is too long could not be built either.
    if laps * sum([times * len(turn) for times, _, turn in parts]) > MOST_TURNED:
        raise TooLong(MOST_TURNED)
    graph = graph_from(house, house[1])
    place = house[1]
    history = ()
    for times, road, turn in parts:
        start = walked(house, house[1], road)[0]
        history += way_between(graph, place, start) + turn * (laps * times)
        place = start
    return history + way_between(graph, place, house[1])
