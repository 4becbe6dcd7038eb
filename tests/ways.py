"""Ways of the tests' own to make graphs and to count in them, apart from those of the package."""

from itertools import combinations, permutations


def whole_graph(vertices):
    return (vertices, tuple(combinations(range(vertices), 2)))


def halves_graph(left, right):
    return (left + right, tuple((a, left + b) for a in range(left) for b in range(right)))


PRISM = (6, ((0, 1), (0, 2), (0, 3), (1, 2), (1, 4), (2, 5), (3, 4), (3, 5), (4, 5)))
PETERSEN = (10, ((0, 5), (0, 7), (0, 8), (1, 4), (1, 7), (1, 9), (2, 3), (2, 8), (2, 9), (3, 6), (3, 7),
                 (4, 6), (4, 8), (5, 6), (5, 9)))
# Ten vertices and 24 edges, in three unlike ways.
FULL = (10, whole_graph(10)[1][:24])
FULL_ROUND = (10, tuple(sorted([(k, k + 1) for k in range(9)] + [(0, 9)]
                               + [(k, k + 2) for k in range(8)] + [(k, k + 5) for k in range(5)] + [(0, 8)])))
FULL_HALVES = (10, halves_graph(4, 6)[1])
SMALL = [(1, ()), (2, ()), (2, ((0, 1),)), (5, ((0, 3), (1, 4))), (4, ((0, 1), (1, 2), (2, 3))), whole_graph(3),
         whole_graph(4), whole_graph(5), whole_graph(6), halves_graph(3, 3), PRISM, (7, PRISM[1]),
         (6, ((0, 1), (0, 2), (1, 2), (3, 4), (3, 5), (4, 5)))]
LARGE = [PETERSEN, FULL, FULL_ROUND, FULL_HALVES]


class Odd:
    """A value that can't be compared, nor be a key."""

    __hash__ = None

    def __eq__(self, other):
        raise AssertionError("compared")

    __lt__ = __gt__ = __eq__

    def __len__(self):
        raise AssertionError("measured")

    def __bool__(self):
        raise AssertionError("tested")


def nested(depth):
    return (nested(depth - 1),) if depth else ()


ANYTHING = [None, True, False, 0, 1, -1, 10 ** 99, "", "ab", "3: 0-1", b"ab", (), (0,), (0, 1), (0, 1, 2), [], [0, 1],
            {}, {0: 1}, {0, 1}, Odd(), (Odd(), Odd()), (1, Odd()), nested(20), object, len]

NO_GRAPHS = ANYTHING + [
    (0, ()), (11, ()), (-1, ()), (True, ()), ("1", ()), (None, ()), (10 ** 99, ()), (3, None), (3, 0), (3, "01"),
    (3,), (3, (), ()), [3, ()], (3, []), (3, {}), (3, [(0, 1)]), (3, ([0, 1],)), (3, ((0, 1), [1, 2])),
    (10, whole_graph(10)[1][:25]), (3, ((0, 1), (0, 1))), (3, ((1, 2), (0, 1))), (3, ((1, 0),)), (3, ((1, 1),)),
    (3, ((0, 3),)), (3, ((-1, 0),)), (3, ((0, 1), (1, 3))), (3, ((0,),)), (3, ((0, 1, 2),)), (3, (0, 1)),
    (3, ((0, True),)), (3, ((False, 1),)), (3, ((0, "1"),)), (3, ((0, None),)), (3, ((0, (1,)),)),
    (3, ((0, 1), None)), (3, (None, (0, 1))), (3, ((0, 1), Odd())), (3, ((0, Odd()),)), (Odd(), ()), (3, Odd()),
    (2, ("01",)), (2, (b"01",)), (3, ((0, 1), (0, 10 ** 99)))]


def all_graphs(vertices):
    """All graphs with this many vertices."""
    pairs = list(combinations(range(vertices), 2))
    return [(vertices, chosen) for many in range(len(pairs) + 1) for chosen in combinations(pairs, many)]


def components_by_merging(graph):
    lots = [{vertex} for vertex in range(graph[0])]
    for low, high in graph[1]:
        met = [lot for lot in lots if low in lot or high in lot]
        lots = [lot for lot in lots if lot not in met] + [set().union(*met)]
    return tuple(sorted(tuple(sorted(lot)) for lot in lots))


def cycles_by_orders(graph):
    """All orders of all lots of vertices, and which are cycles: for small graphs."""
    joined = set(graph[1]) | {(high, low) for low, high in graph[1]}
    rows = [row for many in range(3, graph[0] + 1) for row in permutations(range(graph[0]), many)]
    return tuple(sorted(row for row in rows if row[0] == min(row) and row[1] < row[-1]
                        and all((row[k - 1], row[k]) in joined for k in range(len(row)))))


def even_lots(graph):
    """All lots of edges with an even number at each vertex, as numbers."""
    bits = {edge: 1 << place for place, edge in enumerate(graph[1])}
    reach = {}
    lots = [0]
    for edge in graph[1]:
        # Each edge that closes a way of the forest so far gives one more basic lot.
        way = forest_way(reach, *edge)
        if way is None:
            reach.setdefault(edge[0], []).append(edge)
            reach.setdefault(edge[1], []).append(edge)
        else:
            lot = bits[edge] + sum(bits[other] for other in way)
            lots += [lot ^ other for other in lots]
    return [[edge for edge in graph[1] if lot & bits[edge]] for lot in lots]


def forest_way(reach, start, goal):
    ways = {start: []}
    waiting = [start]
    while waiting:
        here = waiting.pop()
        for edge in reach.get(here, []):
            other = edge[0] + edge[1] - here
            if other not in ways:
                ways[other] = ways[here] + [edge]
                waiting.append(other)
    return ways.get(goal)


def as_cycle(edges):
    """The cycle that these edges are, told as the document tells it; None."""
    rows = {}
    for low, high in edges:
        rows.setdefault(low, []).append(high)
        rows.setdefault(high, []).append(low)
    if not edges or any(len(row) != 2 for row in rows.values()):
        return None
    start = min(rows)
    told = [start, min(rows[start])]
    while len(told) < len(rows):
        following = [vertex for vertex in rows[told[-1]] if vertex not in told]
        if not following:
            return None
        told.append(following[0])
    return tuple(told)


def cycles_by_even_lots(graph):
    found = [as_cycle(edges) for edges in even_lots(graph)]
    return tuple(sorted(row for row in found if row))


def pairs_by_even_lots(graph):
    """The even lots that are two cycles without a common vertex."""
    found = []
    for edges in even_lots(graph):
        lots = [lot for lot in components_by_merging((graph[0], tuple(edges))) if len(lot) > 1]
        if len(lots) == 2:
            rows = [as_cycle([edge for edge in edges if edge[0] in lot]) for lot in lots]
            if None not in rows:
                found.append(tuple(sorted(rows)))
    return tuple(sorted(found))
