"""The contents that histories lead to, and the moves between them.

A graph is a dict: for each place the lines of the moves that are not barred there, as (move, next place, payment).
The places of most graphs are contents.
"""

from paidahead.moves import moves


def graph_from(house, content):
    """Return the graph of the contents to which histories from this one lead."""
    return spread(content, lambda place: moves(house, place))


def spread(start, lines):
    """Return the graph of the places to which moves lead from start; lines returns the lines of a place."""
    graph = {}
    waiting = [start]
    while waiting:
        place = waiting.pop()
        if place not in graph:
            graph[place] = lines(place)
            waiting.extend([after for _, after, _ in graph[place]])
    return graph


def backward(graph):
    """Return the same moves by the places to which they lead, with the place before in each."""
    found = {place: [] for place in graph}
    for place, lines in graph.items():
        for move, after, paid in lines:
            found[after].append((move, place, paid))
    return found


def way_between(graph, first, last):
    """Return a shortest history from the first place to the last one; None if there is none."""
    chains = {first: None}
    places = [first]
    at = 0
    while at < len(places) and last not in chains:
        place = places[at]
        for move, after, _ in graph[place]:
            if after not in chains:
                chains[after] = (chains[place], move)
                places.append(after)
        at += 1
    if last not in chains:
        return None
    return tuple(reversed(unchained(chains[last])))


def unchained(chain):
    """Return the list of the moves of a chain, the newest first.

    A chain is None, or a pair of the chain before and a move: so many chains share what they have alike.
    """
    found = []
    while chain is not None:
        chain, move = chain
        found.append(move)
    return found
