"""Layings in space by how often cycles are linked, modulo 2."""

from linkless.equations import contradiction, is_odd, mark, solution
from linkless.errors import InvalidPasses
from linkless.graphs import check_graph, cycle_edges, cycle_pairs, edge_pairs, is_cycle_pair, is_edge_pair
from linkless.values import is_ascending


def odd_links(graph, passes):
    """The pairs of cycles with linking parity 1, ascending."""
    check_graph(graph)
    _check_passes(graph, passes)
    numbers = {pair: number for number, pair in enumerate(edge_pairs(graph))}
    chosen = 1 + sum([mark(numbers[pair]) for pair in passes])
    pairs = cycle_pairs(graph)
    rows = _rows(graph, pairs)
    return tuple([pair for pair, row in zip(pairs, rows) if is_odd(row & chosen)])


def passes_of(graph):
    """Passes with which no linking parity is 1; None."""
    check_graph(graph)
    found = solution(_rows(graph, cycle_pairs(graph)))
    if found is None:
        return None
    passes = edge_pairs(graph)
    return tuple([passes[number] for number in found])


def linking_witness(graph):
    """Pairs of cycles that bar all passes; None."""
    check_graph(graph)
    pairs = cycle_pairs(graph)
    found = contradiction(_rows(graph, pairs))
    if found is None:
        return None
    return tuple([pairs[index] for index in found])


def is_linking_witness(graph, value):
    """Whether the value is a linking witness of the graph."""
    check_graph(graph)
    if type(value) is not tuple or not all([is_cycle_pair(graph, pair) for pair in value]):
        return False
    total = 0
    for row in _rows(graph, value):
        total ^= row
    return is_ascending(value) and total == 1


def _check_passes(graph, passes):
    if type(passes) is not tuple:
        raise InvalidPasses(None)
    for index, pair in enumerate(passes):
        if not is_edge_pair(graph, pair) or (index > 0 and pair <= passes[index - 1]):
            raise InvalidPasses(index)


def _rows(graph, pairs):
    """For each pair of cycles the equation that its linking parity is 0, the passes as unknowns."""
    marks = _marks(graph)
    sides = {row: cycle_edges(row) for pair in pairs for row in pair}
    return [_row(sides[first], sides[second], marks) for first, second in pairs]


def _marks(graph):
    """What an edge of the first cycle brings to the equation, together with one of the second cycle."""
    found = {}
    for number, (low, high) in enumerate(edge_pairs(graph)):
        found[(low, high)] = mark(number)
        # Of two edges that cross, the one with the greater ends is over the other one.
        found[(high, low)] = mark(number) + (1 if low[0] < high[0] < low[1] < high[1] else 0)
    return found


def _row(first, second, marks):
    row = 0
    for edge in first:
        for other in second:
            row ^= marks[(edge, other)]
    return row
