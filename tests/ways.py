"""Ways of the tests' own to make graphs and to count in them, apart from those of the package."""

from fractions import Fraction
from functools import lru_cache
from itertools import chain, combinations, permutations, product


def whole_graph(vertices):
    return (vertices, tuple(combinations(range(vertices), 2)))


def halves_graph(left, right):
    return (left + right, tuple((a, left + b) for a in range(left) for b in range(right)))


PRISM = (6, ((0, 1), (0, 2), (0, 3), (1, 2), (1, 4), (2, 5), (3, 4), (3, 5), (4, 5)))
PETERSEN = (10, ((0, 5), (0, 7), (0, 8), (1, 4), (1, 7), (1, 9), (2, 3), (2, 8), (2, 9), (3, 6), (3, 7),
                 (4, 6), (4, 8), (5, 6), (5, 9)))
# Ten vertices and 24 edges, in three unlike ways.
FULL = (10, whole_graph(10)[1][:24])
FULL_ROUND = (10, tuple(sorted([(k, k + 1) for k in range(9)] + [(0, 9)]
                               + [(k, k + 2) for k in range(8)] + [(k, k + 5) for k in range(5)] + [(0, 8)])))
FULL_HALVES = (10, halves_graph(4, 6)[1])
SMALL = [(1, ()), (2, ()), (2, ((0, 1),)), (5, ((0, 3), (1, 4))), (4, ((0, 1), (1, 2), (2, 3))), whole_graph(3),
         whole_graph(4), whole_graph(5), whole_graph(6), halves_graph(3, 3), PRISM, (7, PRISM[1]),
         (6, ((0, 1), (0, 2), (1, 2), (3, 4), (3, 5), (4, 5)))]
LARGE = [PETERSEN, FULL, FULL_ROUND, FULL_HALVES]


class Odd:
    """A value that can't be compared, nor be a key."""

    __hash__ = None

    def __eq__(self, other):
        raise AssertionError("compared")

    __lt__ = __gt__ = __eq__

    def __len__(self):
        raise AssertionError("measured")

    def __bool__(self):
        raise AssertionError("tested")


NO_LEVELS = [0, 5, -1, 10 ** 99, True, False, None, "", "1", "3", b"3", (), (1,), (1, 2), [], [1], {}, {1: 1}, {1},
             Odd(), (Odd(),), object, len]
# Members of rows that make a row wrong wherever they stand.
STRANGE = [None, True, "", "01", b"01", [], {}, (), (0,), (0, 1, 2), ((0, 1),), Odd(), (Odd(), Odd()), -1, 10 ** 99]


def nested(depth):
    return (nested(depth - 1),) if depth else ()


ANYTHING = [None, True, False, 0, 1, -1, 10 ** 99, "", "ab", "3: 0-1", b"ab", (), (0,), (0, 1), (0, 1, 2), [], [0, 1],
            {}, {0: 1}, {0, 1}, Odd(), (Odd(), Odd()), (1, Odd()), nested(20), object, len]

NO_GRAPHS = ANYTHING + [
    (0, ()), (11, ()), (-1, ()), (True, ()), ("1", ()), (None, ()), (10 ** 99, ()), (3, None), (3, 0), (3, "01"),
    (3,), (3, (), ()), [3, ()], (3, []), (3, {}), (3, [(0, 1)]), (3, ([0, 1],)), (3, ((0, 1), [1, 2])),
    (10, whole_graph(10)[1][:25]), (3, ((0, 1), (0, 1))), (3, ((1, 2), (0, 1))), (3, ((1, 0),)), (3, ((1, 1),)),
    (3, ((0, 3),)), (3, ((-1, 0),)), (3, ((0, 1), (1, 3))), (3, ((0,),)), (3, ((0, 1, 2),)), (3, (0, 1)),
    (3, ((0, True),)), (3, ((False, 1),)), (3, ((0, "1"),)), (3, ((0, None),)), (3, ((0, (1,)),)),
    (3, ((0, 1), None)), (3, (None, (0, 1))), (3, ((0, 1), Odd())), (3, ((0, Odd()),)), (Odd(), ()), (3, Odd()),
    (2, ("01",)), (2, (b"01",)), (3, ((0, 1), (0, 10 ** 99)))]


def all_graphs(vertices):
    """All graphs with this many vertices."""
    pairs = list(combinations(range(vertices), 2))
    return [(vertices, chosen) for many in range(len(pairs) + 1) for chosen in combinations(pairs, many)]


def components_by_merging(graph):
    lots = [{vertex} for vertex in range(graph[0])]
    for low, high in graph[1]:
        met = [lot for lot in lots if low in lot or high in lot]
        lots = [lot for lot in lots if lot not in met] + [set().union(*met)]
    return tuple(sorted(tuple(sorted(lot)) for lot in lots))


def cycles_by_orders(graph):
    """All orders of all lots of vertices, and which are cycles: for small graphs."""
    joined = set(graph[1]) | {(high, low) for low, high in graph[1]}
    rows = [row for many in range(3, graph[0] + 1) for row in permutations(range(graph[0]), many)]
    return tuple(sorted(row for row in rows if row[0] == min(row) and row[1] < row[-1]
                        and all((row[k - 1], row[k]) in joined for k in range(len(row)))))


def even_lots(graph):
    """All lots of edges with an even number at each vertex, as numbers."""
    bits = {edge: 1 << place for place, edge in enumerate(graph[1])}
    reach = {}
    lots = [0]
    for edge in graph[1]:
        # Each edge that closes a way of the forest so far gives one more basic lot.
        way = forest_way(reach, *edge)
        if way is None:
            reach.setdefault(edge[0], []).append(edge)
            reach.setdefault(edge[1], []).append(edge)
        else:
            lot = bits[edge] + sum(bits[other] for other in way)
            lots += [lot ^ other for other in lots]
    return [[edge for edge in graph[1] if lot & bits[edge]] for lot in lots]


def forest_way(reach, start, goal):
    ways = {start: []}
    waiting = [start]
    while waiting:
        here = waiting.pop()
        for edge in reach.get(here, []):
            other = edge[0] + edge[1] - here
            if other not in ways:
                ways[other] = ways[here] + [edge]
                waiting.append(other)
    return ways.get(goal)


def as_cycle(edges):
    """The cycle that these edges are, told as the document tells it; None."""
    rows = {}
    for low, high in edges:
        rows.setdefault(low, []).append(high)
        rows.setdefault(high, []).append(low)
    if not edges or any(len(row) != 2 for row in rows.values()):
        return None
    start = min(rows)
    told = [start, min(rows[start])]
    while len(told) < len(rows):
        following = [vertex for vertex in rows[told[-1]] if vertex not in told]
        if not following:
            return None
        told.append(following[0])
    return tuple(told)


def cycles_by_even_lots(graph):
    found = [as_cycle(edges) for edges in even_lots(graph)]
    return tuple(sorted(row for row in found if row))


@lru_cache(maxsize=None)
def pairs_by_even_lots(graph):
    """The even lots that are two cycles without a common vertex."""
    found = []
    for edges in even_lots(graph):
        lots = [lot for lot in components_by_merging((graph[0], tuple(edges))) if len(lot) > 1]
        if len(lots) == 2:
            rows = [as_cycle([edge for edge in edges if edge[0] in lot]) for lot in lots]
            if None not in rows:
                found.append(tuple(sorted(rows)))
    return tuple(sorted(found))


def renamed(graph, order):
    """The graph with order[V] as the name of each vertex V."""
    return (graph[0], tuple(sorted(tuple(sorted((order[low], order[high]))) for low, high in graph[1])))


def shuffled(graph, chance):
    return renamed(graph, chance.sample(range(graph[0]), graph[0]))


def capped(graph):
    """The graph and one vertex more, joined to all."""
    vertices, edges = graph
    return (vertices + 1, tuple(sorted(edges + tuple((vertex, vertices) for vertex in range(vertices)))))


def grown(graph, vertices, edges, chance):
    """A graph with this one as a minor: vertices are split in two, edges added."""
    many, rows = graph[0], [list(edge) for edge in graph[1]]
    while many < vertices and len(rows) < edges:
        at = chance.randrange(many)
        for row in rows:
            if at in row and chance.random() < 0.5:
                row[row.index(at)] = many
        rows.append([at, many])
        many += 1
    taken = {tuple(sorted(row)) for row in rows}
    free = [pair for pair in combinations(range(many), 2) if pair not in taken]
    taken |= set(chance.sample(free, min(len(free), max(0, edges - len(taken)))))
    return shuffled((many, tuple(sorted(taken))), chance)


def lie_across(edge, other):
    """Whether two chords of a circle cross, as lines between points of a parabola."""
    def side(start, end, point):
        return (end - start) * (point ** 2 - start ** 2) - (end ** 2 - start ** 2) * (point - start)
    return (side(*edge, other[0]) * side(*edge, other[1]) < 0 and side(*other, edge[0]) * side(*other, edge[1]) < 0)


def sided(vertices, edges, sides, chance):
    """A graph drawn with its vertices round a circle, its edges in lands or round them, one for each side."""
    pairs = list(combinations(range(vertices), 2))
    chance.shuffle(pairs)
    drawn = [[] for _ in range(sides)]
    for pair in pairs:
        fitting = [side for side in drawn if not any(lie_across(pair, other) for other in side)]
        if fitting and sum(map(len, drawn)) < edges:
            chance.choice(fitting).append(pair)
    return shuffled((vertices, tuple(sorted(chain(*drawn)))), chance)


def fits_sides(graph, sides):
    """Whether some order round a circle leaves no crossings, or none that two sides don't part.

    One side is what outerplanar graphs ask for; two are what planar ones do, if they have up to ten vertices.
    """
    for order in permutations(range(1, graph[0])):
        rows = renamed(graph, (0,) + order)[1]
        across = [pair for pair in combinations(rows, 2) if lie_across(*pair)]
        if not across or (sides == 2 and falls_in_two(rows, across)):
            return True
    return False


def falls_in_two(things, pairs):
    """Whether the things fall in two lots, each pair in both."""
    lots = {}
    for thing in things:
        waiting = [(thing, 0)] if thing not in lots else []
        while waiting:
            here, lot = waiting.pop()
            if lots.setdefault(here, lot) != lot:
                return False
            others = [first if here == second else second for first, second in pairs if here in (first, second)]
            waiting += [(other, 1 - lot) for other in others if lots.get(other) != 1 - lot]
    return True


def are_paths(graph):
    ends = list(chain(*graph[1]))
    return (all(ends.count(vertex) <= 2 for vertex in ends)
            and len(graph[1]) == graph[0] - len(components_by_merging(graph)))


def level_by_orders(graph):
    """The least level of a graph with up to six vertices: for so few, just K6 is above the fourth."""
    if are_paths(graph):
        return 1
    return 2 if fits_sides(graph, 1) else 3 if fits_sides(graph, 2) else 4 if len(graph[1]) < 15 else 5


def canonical(graph):
    """The least of the same graph in other orders, those of lesser degree first."""
    ends = list(chain(*graph[1]))
    lots = {}
    for vertex in range(graph[0]):
        lots.setdefault(ends.count(vertex), []).append(vertex)
    rows = product(*(permutations(lots[many]) for many in sorted(lots)))
    return min(renamed(graph, [list(chain(*row)).index(vertex) for vertex in range(graph[0])]) for row in rows)


def same_but_for_names(graph, other):
    """Whether some order of the one graph's vertices makes it the other one."""
    joined, wanted = [[[(min(a, b), max(a, b)) in rows for b in range(many)] for a in range(many)]
                      for many, rows in ((graph[0], set(graph[1])), (other[0], set(other[1])))]
    if sorted(map(sum, joined)) != sorted(map(sum, wanted)):
        return False
    waiting = [()]
    while waiting:
        row = waiting.pop()
        if len(row) == graph[0]:
            return True
        for place in set(range(graph[0])) - set(row):
            if all(joined[place][row[k]] == wanted[len(row)][k] for k in range(len(row))):
                waiting.append(row + (place,))
    return False


def classes(vertices):
    """One of each lot of graphs that are the same but for names."""
    if vertices == 1:
        return [(1, ())]
    found = set()
    for _, edges in classes(vertices - 1):
        for many in range(vertices):
            for ends in combinations(range(vertices - 1), many):
                found.add(canonical((vertices, tuple(sorted(edges + tuple((end, vertices - 1) for end in ends))))))
    return sorted(found)


def step_down(graph):
    """All that comes of a graph by deleting or contracting an edge or deleting a vertex, but for names."""
    vertices, edges = graph
    found = [(vertices, edges[:k] + edges[k + 1:]) for k in range(len(edges))]
    for gone in range(vertices if vertices > 1 else 0):
        for kept in [None] + [sum(edge) - gone for edge in edges if gone in edge]:
            # Joined to nothing, or to one of its neighbours, it goes.
            moved = [{kept if end == gone else end for end in edge} for edge in edges]
            kept_rows = [row for row in moved if len(row) == 2 and None not in row]
            pairs = {tuple(sorted(end - (end > gone) for end in row)) for row in kept_rows}
            found.append((vertices - 1, tuple(sorted(pairs))))
    return {canonical(other) for other in found}


def minors_by_steps(graph, known):
    """All minors, but for names; what is known is kept."""
    graph = canonical(graph)
    if graph not in known:
        known[graph] = {graph}.union(*(minors_by_steps(other, known) for other in step_down(graph)))
    return known[graph]


def is_model_by_sets(graph, other, value):
    lots = [set(lot) for lot in value]
    merged = {frozenset(k for k, lot in enumerate(lots) if end in lot) for end in chain(*value)}
    joins = {frozenset(k for k, lot in enumerate(lots) for end in edge if end in lot) for edge in graph[1]}
    whole = all(tuple(sorted(lot)) in components_by_merging(
        (graph[0], tuple(edge for edge in graph[1] if lot.issuperset(edge)))) for lot in lots)
    ascending = all(list(lot) == sorted(set(lot)) for lot in value)
    across = all(frozenset(edge) in joins for edge in other[1])
    return len(value) == other[0] and all(len(lot) == 1 for lot in merged) and whole and ascending and across


def walks_by_steps(rotation):
    """The corners of the walks of a rotation, by steps taken until all are taken."""
    left = {(vertex, other) for vertex, row in enumerate(rotation) for other in row}
    found = []
    while left:
        walk = [min(left)]
        while True:
            here, there = walk[-1]
            row = list(rotation[there]) * 2
            step = (there, row[row.index(here) + 1])
            if step == walk[0]:
                break
            walk.append(step)
        left -= set(walk)
        corners = [here for here, _ in walk]
        found.append(min(tuple(corners[k:] + corners[:k]) for k in range(len(corners))))
    return tuple(sorted(found))


def is_flat_by_walks(graph, rotation):
    """Whether the walks are as many as Euler tells, for all components together."""
    wide = [lot for lot in components_by_merging(graph) if len(lot) > 1]
    return len(walks_by_steps(rotation)) == len(graph[1]) - sum(map(len, wide)) + 2 * len(wide)


def all_rotations(graph):
    """All rotations, each row from its least neighbour on."""
    rows = [[] for _ in range(graph[0])]
    for low, high in graph[1]:
        rows[low].append(high)
        rows[high].append(low)
    return product(*([(*row[:1], *rest) for rest in permutations(row[1:])] for row in rows))


def apart(graph):
    """All pairs of independent edges, ascending."""
    return [pair for pair in combinations(graph[1], 2) if len(set(chain(*pair))) == 4]


def all_moves(graph):
    return [(edge, vertex) for edge in graph[1] for vertex in range(graph[0]) if vertex not in edge]


def crossings_by_count(graph, moves):
    found = []
    for first, second in apart(graph):
        many = int(lie_across(first, second))
        for edge, vertex in moves:
            many += (edge == first and vertex in second) + (edge == second and vertex in first)
        if many % 2:
            found.append((first, second))
    return tuple(found)


@lru_cache(maxsize=None)
def is_over(edge, other):
    """Whether a straight line between two points (T, T ^ 2, T ^ 3) is above another one where they cross.

    Seen from above, that is: where the first two numbers of the points are the same.
    """
    if len({*edge, *other}) < 4 or not lie_across(edge, other):
        return False
    (a, b), (c, d) = edge, other
    slope, slope_other = a + b, c + d
    place = Fraction(c * d - a * b, slope_other - slope)

    def height(start, end):
        return start ** 3 + (end ** 3 - start ** 3) * (place - start) / (end - start)
    return height(a, b) > height(c, d)


def sides_of(row):
    return [tuple(sorted(pair)) for pair in zip(row, row[1:] + row[:1])]


def links_by_count(graph, passes):
    found = []
    for first, second in pairs_by_even_lots(graph):
        ones, others = sides_of(first), sides_of(second)
        many = sum(is_over(edge, other) for edge in ones for other in others)
        many += sum((edge in ones and other in others) or (edge in others and other in ones) for edge, other in passes)
        if many % 2:
            found.append((first, second))
    return tuple(found)


def is_witness_by_count(pairs, odd, changes, do_meet):
    """Whether an odd number of the pairs are odd, and each change meets an even number of them."""
    return (sum(pair in odd for pair in pairs) % 2 == 1
            and all(sum(do_meet(change, pair) for pair in pairs) % 2 == 0 for change in changes))


def is_crossing_witness_by_count(graph, pairs):
    def do_meet(move, pair):
        edge, vertex = move
        return edge in pair and any(vertex in other for other in pair if other != edge)
    return is_witness_by_count(pairs, crossings_by_count(graph, ()), all_moves(graph), do_meet)


def is_linking_witness_by_count(graph, pairs):
    def do_meet(change, pair):
        ones, others = map(sides_of, pair)
        return any(edge in ones and other in others for edge, other in (change, change[::-1]))
    return is_witness_by_count(pairs, links_by_count(graph, ()), apart(graph), do_meet)


def some_of(parts, chance):
    """Some of the parts, ascending."""
    return tuple(sorted(chance.sample(parts, chance.randrange(len(parts) + 1))))


def can_all_hold(rows):
    """Whether equations modulo 2 can hold together: lots of unknowns, None among them where the right side is 1."""
    left = [set(row) for row in rows]
    while left:
        row = left.pop()
        unknowns = row - {None}
        if unknowns:
            lead = min(unknowns)
            left = [other ^ row if lead in other else other for other in left]
        elif row:
            return False
    return True


def crossing_rows(graph):
    """For each pair of independent edges the equation that it crosses an even number of times."""
    return [{(edge, vertex) for edge, other in (pair, pair[::-1]) for vertex in other}
            | ({None} if lie_across(*pair) else set()) for pair in apart(graph)]


def linking_rows(pairs):
    """For each pair of cycles the equation that it is linked an even number of times."""
    rows = []
    for first, second in pairs:
        met = list(product(sides_of(first), sides_of(second)))
        odd = sum(is_over(edge, other) for edge, other in met) % 2
        rows.append({tuple(sorted(both)) for both in met} | ({None} if odd else set()))
    return rows


@lru_cache(maxsize=None)
def level_by_rows(graph):
    """The least level: by degrees and rings, moves of the cone, moves, passes."""
    if are_paths(graph):
        return 1
    if can_all_hold(crossing_rows(capped(graph))):
        return 2
    if can_all_hold(crossing_rows(graph)):
        return 3
    return 4 if can_all_hold(linking_rows(pairs_by_cycles(graph))) else 5


def pairs_by_cycles(graph):
    """All pairs of cycles, of ways that go from their least vertex back to it."""
    joined = {vertex: [sum(edge) - vertex for edge in graph[1] if vertex in edge] for vertex in range(graph[0])}
    lots = {}
    for start in range(graph[0]):
        waiting = [[start]]
        while waiting:
            way = waiting.pop()
            waiting += [way + [other] for other in joined[way[-1]] if other > start and other not in way]
            if len(way) > 2 and way[1] < way[-1] and start in joined[way[-1]]:
                lots.setdefault(frozenset(way), []).append(tuple(way))
    return sorted(tuple(sorted((one, other))) for lot, more in combinations(lots, 2) if not lot & more
                  for one in lots[lot] for other in lots[more])


def some_graph(vertices, edges, chance):
    """A graph with this many of each, or all edges if there are fewer."""
    pairs = list(combinations(range(vertices), 2))
    return (vertices, tuple(sorted(chance.sample(pairs, min(edges, len(pairs))))))


def one_more(graph):
    """All graphs with an edge more."""
    vertices, edges = graph
    return [(vertices, tuple(sorted(edges + (pair,)))) for pair in combinations(range(vertices), 2) if pair not in edges]


def one_less(graph):
    """All graphs with an edge less."""
    return [(graph[0], graph[1][:k] + graph[1][k + 1:]) for k in range(len(graph[1]))]


def path_of(vertices):
    return (vertices, tuple((k, k + 1) for k in range(vertices - 1)))


def dropped(graph, gone):
    """The graph without a vertex, the others named from 0 on."""
    kept = [edge for edge in graph[1] if gone not in edge]
    return (graph[0] - 1, tuple(tuple(end - (end > gone) for end in edge) for edge in kept))
