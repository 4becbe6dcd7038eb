"""Graphs that come of a graph by one change."""

from linkless.errors import InvalidEdge, InvalidTriangle, InvalidVertex, TooMany
from linkless.graphs import MOST_EDGES, MOST_VERTICES, check_graph, is_edge, is_vertex, neighbours
from linkless.values import is_whole_row


def without_edge(graph, edge):
    """The graph with an edge deleted."""
    check_graph(graph)
    _check_edge(graph, edge)
    vertices, edges = graph
    return (vertices, tuple([other for other in edges if other != edge]))


def without_vertex(graph, vertex):
    """The graph with a vertex and its edges deleted."""
    check_graph(graph)
    _check_vertex(graph, vertex)
    if graph[0] == 1:
        raise InvalidVertex(vertex)
    return _dropped(graph, vertex)


def contracted(graph, edge):
    """The graph with an edge contracted to its lesser end."""
    check_graph(graph)
    _check_edge(graph, edge)
    vertices, edges = graph
    kept, gone = edge
    moved = [[kept if end == gone else end for end in other] for other in edges]
    return _dropped((vertices, _edges_of(moved)), gone)


def cone(graph):
    """The graph with one vertex more that is joined to all others."""
    check_graph(graph)
    vertices, edges = graph
    spokes = [(vertex, vertices) for vertex in range(vertices)]
    return _within_bounds(vertices + 1, _edges_of([*edges, *spokes]))


def claw_for(graph, triangle):
    """The graph with a new vertex joined to a triangle's vertices instead of its edges."""
    check_graph(graph)
    _check_triangle(graph, triangle)
    vertices, edges = graph
    kept = [edge for edge in edges if edge not in _sides(triangle)]
    spokes = [(corner, vertices) for corner in triangle]
    return _within_bounds(vertices + 1, _edges_of([*kept, *spokes]))


def triangle_for(graph, vertex):
    """The graph with the three neighbours of a vertex joined instead of this vertex."""
    check_graph(graph)
    _check_vertex(graph, vertex)
    around = neighbours(graph)[vertex]
    if len(around) != 3:
        raise InvalidVertex(vertex)
    vertices, edges = graph
    return _dropped((vertices, _edges_of([*edges, *_sides(around)])), vertex)


def _check_edge(graph, edge):
    if not is_edge(graph, edge):
        raise InvalidEdge(edge)


def _check_vertex(graph, vertex):
    if not is_vertex(graph, vertex):
        raise InvalidVertex(vertex)


def _check_triangle(graph, triangle):
    if not _is_triangle(graph, triangle):
        raise InvalidTriangle(triangle)


def _is_triangle(graph, value):
    # The ends of an edge ascend, so those of three such sides do.
    return is_whole_row(value, 3) and all([is_edge(graph, side) for side in _sides(value)])


def _sides(triangle):
    low, middle, high = triangle
    return ((low, middle), (low, high), (middle, high))


def _edges_of(pairs):
    """The pairs as the edges of a graph: no loops, none twice."""
    return tuple(sorted({(min(pair), max(pair)) for pair in pairs if pair[0] != pair[1]}))


def _dropped(graph, gone):
    vertices, edges = graph
    kept = [edge for edge in edges if gone not in edge]
    return (vertices - 1, tuple([(_name_without(low, gone), _name_without(high, gone)) for low, high in kept]))


def _name_without(vertex, gone):
    return vertex - 1 if vertex > gone else vertex


def _within_bounds(vertices, edges):
    if vertices > MOST_VERTICES:
        raise TooMany(vertices)
    if len(edges) > MOST_EDGES:
        raise TooMany(len(edges))
    return (vertices, edges)
