"""Certificates: of two claims that exclude one another the one that is so, and a paper for it."""

from linkless.crossings import crossing_witness, moves_of
from linkless.graphs import check_graph
from linkless.links import linking_witness, passes_of
from linkless.minors import check_level, laying_of, minor


def certify_level(graph, level):
    """That the graph is of this level or above it, with a laying or a minor."""
    check_graph(graph)
    check_level(level)
    laying = laying_of(graph, level)
    if laying is None:
        return (("above level", graph, level), minor(graph, level))
    return (("of level", graph, level), laying)


def certify_crossing(graph):
    """That moves lead all crossing parities to 0, or that none do, with such moves or a crossing witness."""
    check_graph(graph)
    moves = moves_of(graph)
    if moves is None:
        return (("crossed", graph), crossing_witness(graph))
    return (("uncrossed", graph), moves)


def certify_linking(graph):
    """That passes lead all linking parities to 0, or that none do, with such passes or a linking witness."""
    check_graph(graph)
    passes = passes_of(graph)
    if passes is None:
        return (("linked", graph), linking_witness(graph))
    return (("unlinked", graph), passes)
