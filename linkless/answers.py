"""What the console answers to lines that ask about a graph."""

from linkless.crossings import crossing_witness, moves_of
from linkless.errors import InvalidPasses
from linkless.graphs import components, cycle_pairs, cycles
from linkless.levels import apexes, is_critical, least_level
from linkless.links import linking_witness, odd_links, passes_of
from linkless.minors import FAMILIES, minor
from linkless.planes import outer_rotation, paths_of, rotation_of
from linkless.texts import show_graph
from linkless.words import ends_told, joined_up, number_told

# Numbers of a line have up to two figures.
GREATEST_NUMBER = 99
NOTHING = "none"


def level_told(word):
    """The level that a word tells; None."""
    return number_told(word, 1, len(FAMILIES))


def edge_told(word):
    """The edge that a word tells, the lesser end first; None."""
    ends = ends_told(word, GREATEST_NUMBER)
    return ends if ends is not None and ends[0] < ends[1] else None


def _show(graph):
    return show_graph(graph)


def _level(graph):
    return str(least_level(graph))


def _cycles(graph):
    return str(len(cycles(graph)))


def _pairs(graph):
    return str(len(cycle_pairs(graph)))


def _components(graph):
    return _rows_shown(components(graph))


def _apexes(graph):
    return _rows_shown([(vertex,) for vertex in apexes(graph)])


def _paths(graph):
    paths = paths_of(graph)
    return NOTHING if paths is None else _rows_shown(paths)


def _plane(graph):
    return _rotation_shown(rotation_of(graph))


def _outer(graph):
    return _rotation_shown(outer_rotation(graph))


def _moves(graph):
    moves = moves_of(graph)
    if moves is None:
        return f"crossed, {len(crossing_witness(graph))} pairs"
    return f"flat with {len(moves)} moves"


def _passes(graph):
    passes = passes_of(graph)
    if passes is None:
        return f"linked, {len(linking_witness(graph))} pairs"
    return f"unlinked with {len(passes)} passes"


def _critical(graph, level):
    return "yes" if is_critical(graph, level) else "no"


def _minor(graph, level):
    found = minor(graph, level)
    if found is None:
        return NOTHING
    index, model = found
    return f"{index}: {_rows_shown(model)}"


def _odd(graph, words):
    """How many pairs of cycles are odd with the passes of these words; None if they are no such row."""
    edges = [edge_told(word) for word in words]
    if None in edges:
        return None
    passes = [tuple(sorted(edges[k:k + 2])) for k in range(0, len(edges), 2)]
    try:
        # Passes told twice, and an edge left over, are refused as no row of passes.
        return str(len(odd_links(graph, tuple(sorted(passes)))))
    except InvalidPasses:
        return None


def _rows_shown(rows):
    return " ".join([joined_up(row) for row in rows]) if rows else NOTHING


def _rotation_shown(rotation):
    if rotation is None:
        return NOTHING
    return " ".join([joined_up(row) if row else "." for row in rotation])


PLAIN = {"show": _show, "level": _level, "cycles": _cycles, "pairs": _pairs, "components": _components,
         "apexes": _apexes, "paths": _paths, "plane": _plane, "outer": _outer, "moves": _moves, "passes": _passes}
OF_A_LEVEL = {"critical": _critical, "minor": _minor}
ODD = "odd"


def is_asking(word):
    """Whether a line with this first word asks about the state."""
    return word in PLAIN or word in OF_A_LEVEL or word == ODD


def answer_to(graph, words):
    """The answer to a line of these words, its first word an asking one; None if it has no such form."""
    first, rest = words[0], words[1:]
    if first == ODD:
        return _odd(graph, rest)
    if first in PLAIN and not rest:
        tell = PLAIN[first]
        return tell(graph)
    if first in OF_A_LEVEL and len(rest) == 1:
        level = level_told(rest[0])
        tell_of = OF_A_LEVEL[first]
        return None if level is None else tell_of(graph, level)
    return None
