"""Graphs: their components, cycles, and pairs of what is apart in them."""

from linkless.errors import InvalidGraph
from linkless.values import are_whole, is_ascending, is_row, is_whole, is_whole_row

MOST_VERTICES = 10
MOST_EDGES = 24
LEAST_CYCLE = 3


def is_graph(value):
    """Whether the value is a pair (N, EDGES) that is a graph."""
    if not is_row(value, 2):
        return False
    vertices, edges = value
    if not is_whole(vertices) or not 1 <= vertices <= MOST_VERTICES:
        return False
    if type(edges) is not tuple or len(edges) > MOST_EDGES:
        return False
    # Only pairs of whole numbers are sure to be comparable.
    return all([_could_be_edge(edge, vertices) for edge in edges]) and is_ascending(edges)


def _could_be_edge(value, vertices):
    return is_whole_row(value, 2) and 0 <= value[0] < value[1] < vertices


def check_graph(graph):
    """Raise InvalidGraph for what is no graph."""
    if not is_graph(graph):
        raise InvalidGraph(graph)


def is_edge(graph, value):
    """Whether the value is an edge of the graph."""
    # True and 1 are equal: being equal to an edge is not enough.
    return is_whole_row(value, 2) and value in graph[1]


def is_vertex(graph, value):
    """Whether the value is a vertex of the graph."""
    return is_whole(value) and 0 <= value < graph[0]


def is_edge_pair(graph, value):
    """Whether the value is a pair of independent edges of the graph."""
    if not is_row(value, 2) or not all([is_edge(graph, edge) for edge in value]):
        return False
    first, second = value
    return first < second and _are_independent(first, second)


def _are_independent(first, second):
    return first[0] not in second and first[1] not in second


def is_cycle_pair(graph, value):
    """Whether the value is a pair of cycles of the graph."""
    if not is_row(value, 2) or not all([_is_cycle(graph, row) for row in value]):
        return False
    first, second = value
    return first < second and not _lot_number(first) & _lot_number(second)


def _is_cycle(graph, value):
    if not are_whole(value) or len(value) < LEAST_CYCLE or len(set(value)) < len(value):
        return False
    if value[0] != min(value) or value[1] > value[-1]:
        return False
    return all([edge in graph[1] for edge in cycle_edges(value)])


def cycle_edges(row):
    """The edges from each vertex of a cycle to the next one."""
    return [(min(row[k - 1], row[k]), max(row[k - 1], row[k])) for k in range(len(row))]


def neighbours(graph):
    """For each vertex the ascending tuple of its neighbours."""
    vertices, edges = graph
    rows = [[] for _ in range(vertices)]
    for low, high in edges:
        rows[low].append(high)
        rows[high].append(low)
    return tuple([tuple(sorted(row)) for row in rows])


def components(graph):
    """The components as ascending tuples, ascending."""
    check_graph(graph)
    joined = neighbours(graph)
    found = []
    for vertex in range(graph[0]):
        if not any([vertex in lot for lot in found]):
            found.append(_reached(vertex, joined))
    return tuple(found)


def _reached(start, joined):
    reached = [start]
    waiting = [start]
    while waiting:
        here = waiting.pop()
        for vertex in joined[here]:
            if vertex not in reached:
                reached.append(vertex)
                waiting.append(vertex)
    return tuple(sorted(reached))


def cycles(graph):
    """All cycles, ascending."""
    check_graph(graph)
    joined = neighbours(graph)
    found = []
    for start in range(graph[0]):
        found.extend(_cycles_from(start, joined))
    return tuple(found)


def _cycles_from(start, joined):
    """The cycles with this least vertex, ascending."""
    found = []
    waiting = [(start,)]
    while waiting:
        path = waiting.pop()
        last = path[-1]
        if len(path) >= LEAST_CYCLE and path[1] < last and start in joined[last]:
            found.append(path)
        # The last one put here is taken first, so the least one is put last.
        for vertex in reversed(joined[last]):
            if vertex > start and vertex not in path:
                waiting.append(path + (vertex,))
    return found


def cycle_pairs(graph):
    """All pairs of cycles without a common vertex, ascending."""
    check_graph(graph)
    # A longer cycle leaves too few vertices for another one.
    rows = [row for row in cycles(graph) if len(row) <= graph[0] - LEAST_CYCLE]
    partners = {}
    found = []
    for first in rows:
        lot = _lot_number(first)
        if lot not in partners:
            partners[lot] = _cycles_behind(first, rows)
        found.extend([(first, second) for second in partners[lot]])
    return tuple(found)


def _cycles_behind(first, rows):
    """The cycles above and apart from a cycle: the same for all cycles with its vertices."""
    lot = _lot_number(first)
    return [row for row in rows if row[0] > first[0] and not _lot_number(row) & lot]


def _lot_number(vertices):
    return sum([1 << vertex for vertex in vertices])


def edge_pairs(graph):
    """All pairs of independent edges, ascending."""
    check_graph(graph)
    edges = graph[1]
    return tuple([(first, second) for place, first in enumerate(edges) for second in edges[place + 1:]
                  if _are_independent(first, second)])
