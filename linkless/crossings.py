"""Drawings in the plane by how often edges cross, modulo 2."""

from linkless.equations import contradiction, is_odd, mark, solution
from linkless.errors import InvalidMoves
from linkless.graphs import check_graph, edge_pairs, is_edge, is_edge_pair, is_vertex
from linkless.values import is_ascending, is_row


def odd_crossings(graph, moves):
    """The pairs of independent edges with crossing parity 1, ascending."""
    check_graph(graph)
    _check_moves(graph, moves)
    marks = _marks(graph)
    chosen = 1 + sum([marks[move] for move in moves])
    return tuple([pair for pair in edge_pairs(graph) if is_odd(_row(pair, marks) & chosen)])


def moves_of(graph):
    """Moves with which no crossing parity is 1; None."""
    check_graph(graph)
    marks = _marks(graph)
    found = solution([_row(pair, marks) for pair in edge_pairs(graph)])
    if found is None:
        return None
    moves = _all_moves(graph)
    return tuple([moves[number] for number in found])


def crossing_witness(graph):
    """Pairs of independent edges that bar all moves; None."""
    check_graph(graph)
    marks = _marks(graph)
    pairs = edge_pairs(graph)
    found = contradiction([_row(pair, marks) for pair in pairs])
    if found is None:
        return None
    return tuple([pairs[index] for index in found])


def is_crossing_witness(graph, value):
    """Whether the value is a crossing witness of the graph."""
    check_graph(graph)
    if type(value) is not tuple or not all([is_edge_pair(graph, pair) for pair in value]):
        return False
    marks = _marks(graph)
    total = 0
    for pair in value:
        total ^= _row(pair, marks)
    return is_ascending(value) and total == 1


def _check_moves(graph, moves):
    if type(moves) is not tuple:
        raise InvalidMoves(None)
    for index, move in enumerate(moves):
        if not _is_move(graph, move) or (index > 0 and move <= moves[index - 1]):
            raise InvalidMoves(index)


def _is_move(graph, value):
    if not is_row(value, 2) or not is_edge(graph, value[0]):
        return False
    return is_vertex(graph, value[1]) and value[1] not in value[0]


def _all_moves(graph):
    vertices, edges = graph
    return [(edge, vertex) for edge in edges for vertex in range(vertices) if vertex not in edge]


def _marks(graph):
    return {move: mark(number) for number, move in enumerate(_all_moves(graph))}


def _row(pair, marks):
    """The equation that a pair's crossing parity is 0, the moves as unknowns."""
    first, second = pair
    row = 1 if _do_cross(first, second) else 0
    for vertex in second:
        row ^= marks[(first, vertex)]
    for vertex in first:
        row ^= marks[(second, vertex)]
    return row


def _do_cross(first, second):
    """Whether two independent edges cross as chords."""
    low, high = first
    return (low < second[0] < high) != (low < second[1] < high)
