"""The levels of graphs, and what stands at their bounds."""

from linkless.changes import contracted, without_edge, without_vertex
from linkless.errors import InvalidNumber
from linkless.graphs import MOST_VERTICES, check_graph, neighbours
from linkless.minors import FAMILIES, check_level, has_level
from linkless.planes import rotation_of
from linkless.values import is_whole


def is_of_level(graph, level):
    """Whether the graph is of this level."""
    check_graph(graph)
    check_level(level)
    return has_level(graph, level)


def least_level(graph):
    """The least level that the graph is of; one more than the last if it is of none."""
    check_graph(graph)
    level = 1
    while level <= len(FAMILIES) and not has_level(graph, level):
        level += 1
    return level


def most_edges(level, vertices):
    """The greatest number of edges of graphs of this level with so many vertices."""
    check_level(level)
    if not is_whole(vertices) or not 1 <= vertices <= MOST_VERTICES:
        raise InvalidNumber(vertices)
    if vertices < level:
        return vertices * (vertices - 1) // 2
    # A path and, for each further level, a vertex more that is joined to all others.
    return level * vertices - level * (level + 1) // 2


def apexes(graph):
    """The vertices without any one of which the graph is flat, or the only vertex."""
    check_graph(graph)
    return tuple([vertex for vertex in range(graph[0]) if _is_apex(graph, vertex)])


def _is_apex(graph, vertex):
    return graph[0] == 1 or rotation_of(without_vertex(graph, vertex)) is not None


def is_critical(graph, level):
    """Whether the graph is above the level, and whatever comes of it by one step down is not."""
    check_graph(graph)
    check_level(level)
    if has_level(graph, level):
        return False
    lesser = _steps_down(graph)
    return all(has_level(other, level) for other in lesser)


def _steps_down(graph):
    """What comes by deleting or contracting an edge, or deleting a vertex without neighbours."""
    lonely = [vertex for vertex, row in enumerate(neighbours(graph)) if not row]
    return ([without_edge(graph, edge) for edge in graph[1]] + [contracted(graph, edge) for edge in graph[1]]
            + [without_vertex(graph, vertex) for vertex in lonely])
