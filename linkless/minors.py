"""Minors, and the graphs that bar the levels."""

from linkless.changes import contracted, without_edge
from linkless.errors import InvalidNumber
from linkless.graphs import check_graph, components, neighbours
from linkless.links import passes_of
from linkless.planes import outer_rotation, paths_of, rotation_of
from linkless.texts import read_graph
from linkless.values import are_whole, is_ascending, is_row, is_whole

FAMILIES = (
    ("3: 0-1 0-2 1-2",
     "4: 0-3 1-3 2-3"),
    ("4: 0-1 0-2 0-3 1-2 1-3 2-3",
     "5: 0-2 0-3 0-4 1-2 1-3 1-4"),
    ("5: 0-1 0-2 0-3 0-4 1-2 1-3 1-4 2-3 2-4 3-4",
     "6: 0-3 0-4 0-5 1-3 1-4 1-5 2-3 2-4 2-5"),
    ("6: 0-1 0-2 0-3 0-4 0-5 1-2 1-3 1-4 1-5 2-3 2-4 2-5 3-4 3-5 4-5",
     "7: 0-3 0-4 0-5 0-6 1-3 1-4 1-5 1-6 2-3 2-4 2-5 2-6 3-6 4-6 5-6",
     "7: 0-1 0-2 0-3 0-4 0-5 1-2 1-3 1-4 1-5 2-3 2-4 2-5 3-6 4-6 5-6",
     "8: 0-4 0-5 0-6 0-7 1-4 1-5 1-6 1-7 2-4 2-5 2-6 2-7 3-4 3-5 3-6",
     "8: 0-2 0-4 0-5 0-7 1-2 1-4 1-5 1-7 2-3 2-4 2-5 3-6 3-7 4-6 5-6",
     "9: 0-5 0-7 0-8 1-2 1-4 1-5 1-7 2-3 2-5 2-8 3-6 3-7 4-6 4-8 5-6",
     "10: 0-5 0-7 0-8 1-4 1-7 1-9 2-3 2-8 2-9 3-6 3-7 4-6 4-8 5-6 5-9"),
)


def family(level):
    """The graphs none of which is a minor of a graph of this level."""
    check_level(level)
    return tuple([read_graph(text) for text in FAMILIES[level - 1]])


def is_level(value):
    """Whether the value is the number of a level."""
    return is_whole(value) and 1 <= value <= len(FAMILIES)


def check_level(level):
    """Raise InvalidNumber for what is no level."""
    if not is_level(level):
        raise InvalidNumber(level)


def is_model(graph, other, value):
    """Whether the value is a model of the other graph in the graph."""
    check_graph(graph)
    check_graph(other)
    if not is_row(value, other[0]) or not all([_is_lot(graph, lot) for lot in value]):
        return False
    owners = {vertex: index for index, lot in enumerate(value) for vertex in lot}
    if len(owners) < sum([len(lot) for lot in value]):
        return False
    met = [(owners[low], owners[high]) for low, high in graph[1] if low in owners and high in owners]
    return all([edge in met or (edge[1], edge[0]) in met for edge in other[1]])


def _is_lot(graph, value):
    """Whether the value is an ascending tuple of one vertex or more, connected in the graph."""
    if not are_whole(value) or not is_ascending(value):
        return False
    inner = [edge for edge in graph[1] if edge[0] in value and edge[1] in value]
    return value in components((graph[0], tuple(inner)))


def minor(graph, level):
    """The index of a graph of the family that is a minor, and a model of it; None."""
    check_graph(graph)
    check_level(level)
    if has_level(graph, level):
        return None
    small = _thinned(graph, level)
    lots = [(vertex,) for vertex in range(graph[0])]
    edge = _slack_edge(small, level)
    while edge is not None:
        kept, gone = edge
        lots[kept] = lots[kept] + lots[gone]
        del lots[gone]
        small = contracted(small, edge)
        edge = _slack_edge(small, level)
    index, places = _in_family(small, level)
    return (index, tuple([tuple(sorted(lots[place])) for place in places]))


def has_level(graph, level):
    """Whether the graph is of this level, by its having what the level asks for."""
    return laying_of(graph, level) is not None


def laying_of(graph, level):
    """What the level asks for: paths, an outer or a flat rotation, or passes; None."""
    if level == 1:
        return paths_of(graph)
    if level == 2:
        return outer_rotation(graph)
    if level == 3:
        return rotation_of(graph)
    return passes_of(graph)


def _thinned(graph, level):
    """A graph above the level, with as many edges deleted as can be without its coming to the level."""
    small = graph
    for edge in graph[1]:
        less = without_edge(small, edge)
        if not has_level(less, level):
            small = less
    return small


def _slack_edge(graph, level):
    """An edge that can be contracted without the graph's coming to the level; None."""
    for edge in graph[1]:
        if not has_level(contracted(graph, edge), level):
            return edge
    return None


def _in_family(graph, level):
    """The index of a graph of the family and its vertices' places, but for names, in the graph.

    What no deleting and no contracting is left in is, vertices without edges apart, one of the family.
    """
    for index, other in enumerate(family(level)):
        places = _places_in(graph, other)
        if places is not None:
            return (index, places)
    return None


def _places_in(graph, other):
    """Vertices of the graph between which there are the other graph's edges and, of theirs, no more; None."""
    joined = neighbours(graph)
    wanted = neighbours(other)
    waiting = [()]
    while waiting:
        places = waiting.pop()
        index = len(places)
        if index == other[0]:
            return places
        for vertex in range(graph[0]):
            if len(joined[vertex]) == len(wanted[index]) and vertex not in places:
                # The same neighbours among the vertices placed so far.
                if all([(place in joined[vertex]) == (at in wanted[index]) for at, place in enumerate(places)]):
                    waiting.append(places + (vertex,))
    return None
