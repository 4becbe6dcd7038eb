"""Graphs laid as paths, in the plane, and in the plane with all vertices at one land."""

from linkless.errors import InvalidRotation
from linkless.graphs import check_graph, components, neighbours
from linkless.values import are_whole, is_row


def paths_of(graph):
    """A laying as paths; None."""
    check_graph(graph)
    joined = neighbours(graph)
    if any([len(row) > 2 for row in joined]):
        return None
    paths = []
    for vertex in range(graph[0]):
        if len(joined[vertex]) < 2 and not any([vertex in path for path in paths]):
            paths.append(_path_from(vertex, joined))
    # What no path has come to goes round.
    return tuple(paths) if sum([len(path) for path in paths]) == graph[0] else None


def _path_from(vertex, joined):
    path = ()
    following = [vertex]
    while following:
        path = path + (following[0],)
        following = [other for other in joined[path[-1]] if other not in path]
    return path


def is_laying(graph, value):
    """Whether the value is a laying of the graph as paths."""
    check_graph(graph)
    if type(value) is not tuple or not all([are_whole(path) and len(path) > 0 for path in value]):
        return False
    places = [vertex for path in value for vertex in path]
    steps = [(path[k], path[k + 1]) for path in value for k in range(len(path) - 1)]
    edges = [(min(step), max(step)) for step in steps]
    return sorted(places) == list(range(graph[0])) and tuple(sorted(edges)) == graph[1]


def rotation_of(graph):
    """A flat rotation; None."""
    check_graph(graph)
    return _flat_rotation(graph[0], graph[1])


def outer_rotation(graph):
    """An outer rotation; None."""
    check_graph(graph)
    vertices, edges = graph
    # All vertices are at one land if one vertex more can be joined to all.
    spokes = [(vertex, vertices) for vertex in range(vertices)]
    found = _flat_rotation(vertices + 1, [*edges, *spokes])
    if found is None:
        return None
    return tuple([tuple([other for other in row if other != vertices]) for row in found[:vertices]])


def is_flat(graph, value):
    """Whether the value is a flat rotation of the graph."""
    check_graph(graph)
    return _is_rotation(graph, value) and _goes_round_lands(graph, _walks(value))


def is_outer(graph, value):
    """Whether the value is an outer rotation of the graph."""
    check_graph(graph)
    if not _is_rotation(graph, value):
        return False
    walks = _walks(value)
    # Only the vertices of one component are met by one walk.
    wide = [any([set(walk) == set(lot) for walk in walks]) for lot in components(graph) if len(lot) > 1]
    return _goes_round_lands(graph, walks) and all(wide)


def walks_of(graph, rotation):
    """The corners of the walks, each told from the place on that makes it least, ascending."""
    check_graph(graph)
    if not _is_rotation(graph, rotation):
        raise InvalidRotation(rotation)
    return tuple(sorted([_least_turn(walk) for walk in _walks(rotation)]))


def _least_turn(walk):
    return min([walk[k:] + walk[:k] for k in range(len(walk))])


def _is_rotation(graph, value):
    if not is_row(value, graph[0]) or not all([are_whole(row) for row in value]):
        return False
    return tuple([tuple(sorted(row)) for row in value]) == neighbours(graph)


def _goes_round_lands(graph, walks):
    """Whether there are as many walks in each component as Euler tells of lands."""
    for lot in components(graph):
        edges = [edge for edge in graph[1] if edge[0] in lot]
        found = [walk for walk in walks if walk[0] in lot]
        if edges and len(found) != len(edges) - len(lot) + 2:
            return False
    return True


def _walks(rotation):
    """The corners of the walks."""
    walked = set()
    found = []
    for start in [(vertex, other) for vertex, row in enumerate(rotation) for other in row]:
        corners = ()
        here, there = start
        while (here, there) not in walked:
            walked.add((here, there))
            corners = corners + (here,)
            turn = rotation[there]
            here, there = there, turn[(turn.index(here) + 1) % len(turn)]
        if corners:
            found.append(corners)
    return found


def _flat_rotation(vertices, edges):
    """A flat rotation of vertices and edges, also of more than a graph may have; None."""
    rows = [() for _ in range(vertices)]
    for block in _blocks(vertices, edges):
        faces = _faces_of(block)
        if faces is None:
            return None
        # Blocks with a common vertex may stand side by side at it.
        rows = [row + _row_at(vertex, faces) for vertex, row in enumerate(rows)]
    return tuple(rows)


def _row_at(vertex, faces):
    """The neighbours of a vertex in the order in which the faces bring them."""
    behind = {face[k - 2]: face[k] for face in faces for k in range(len(face)) if face[k - 1] == vertex}
    row = ()
    following = min(behind) if behind else None
    while following is not None and following not in row:
        row = row + (following,)
        following = behind[following]
    return row


def _blocks(vertices, edges):
    """The edges in lots that hang together without any one vertex."""
    lots = [list(edges)]
    for vertex in range(vertices):
        lots = [piece for lot in lots for piece in _pieces(lot, (vertex,))]
    return lots


def _pieces(edges, cut):
    """The edges in lots that hang together by vertices that are not in the cut."""
    lots = []
    for edge in edges:
        ends = [end for end in edge if end not in cut]
        met = [lot for lot in lots if any([end in other for other in lot for end in ends])]
        lots = [lot for lot in lots if lot not in met]
        lots.append([edge] + [other for lot in met for other in lot])
    return lots


def _faces_of(block):
    """The faces of a flat drawing of a block, each by its corners in order; None.

    Way by way through what hangs at the drawing so far, that first which fits in the fewest faces
    (Demoucron, Malgrange, Pertuiset 1964).
    """
    faces = [block[0]]
    missing = block[1:]
    while missing:
        drawn = [vertex for face in faces for vertex in face]
        choices = [(piece, _fitting(piece, drawn, faces)) for piece in _pieces(missing, drawn)]
        piece, fitting = min(choices, key=lambda choice: len(choice[1]))
        if not fitting:
            return None
        way = _way_through(piece, drawn)
        faces = [face for face in faces if face != fitting[0]] + _parted(fitting[0], way)
        missing = [edge for edge in missing if not _is_step(edge, way)]
    return faces


def _fitting(piece, drawn, faces):
    """The faces with all the vertices at which a piece hangs."""
    held = [end for edge in piece for end in edge if end in drawn]
    return [face for face in faces if all([end in face for end in held])]


def _way_through(piece, drawn):
    """A way along edges of a piece from one drawn vertex to another one."""
    ends = [end for edge in piece for end in edge]
    start = min([end for end in ends if end in drawn])
    ways = {start: (start,)}
    waiting = [start]
    while waiting:
        here = waiting.pop()
        for there in [low + high - here for low, high in piece if here in (low, high)]:
            if there not in ways:
                ways[there] = ways[here] + (there,)
                waiting.append(there)
                if there in drawn:
                    return ways[there]
    return None


def _parted(face, way):
    """The two faces into which a way across parts a face."""
    start = face.index(way[0])
    turned = face[start:] + face[:start]
    end = turned.index(way[-1])
    return [way + turned[end + 1:], turned[:end + 1] + way[-2:0:-1]]


def _is_step(edge, way):
    return any([edge in ((way[k], way[k + 1]), (way[k + 1], way[k])) for k in range(len(way) - 1)])
