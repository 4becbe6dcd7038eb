"""The checker of claims: it accepts what a paper shows, and nothing else."""

from linkless.changes import without_vertex
from linkless.crossings import is_crossing_witness, odd_crossings
from linkless.errors import InvalidMoves, InvalidPasses
from linkless.graphs import is_cycle_pair, is_edge_pair, is_graph, is_vertex
from linkless.levels import is_critical
from linkless.links import is_linking_witness, odd_links
from linkless.minors import family, is_level, is_model
from linkless.planes import is_flat, is_laying, is_outer
from linkless.values import is_row, is_whole


def _shows_of_level(parts, paper):
    graph, level = parts
    if not is_level(level):
        return False
    if level == 1:
        return is_laying(graph, paper)
    if level == 2:
        return is_outer(graph, paper)
    if level == 3:
        return is_flat(graph, paper)
    return _has_odd_links(graph, paper, ())


def _shows_above_level(parts, paper):
    graph, level = parts
    if not is_level(level) or not is_row(paper, 2):
        return False
    index, model = paper
    others = family(level)
    return is_whole(index) and 0 <= index < len(others) and is_model(graph, others[index], model)


def _shows_minor(parts, paper):
    graph, other = parts
    return is_graph(other) and is_model(graph, other, paper)


def _shows_uncrossed(parts, paper):
    return _has_odd_crossings(parts[0], paper, ())


def _shows_crossed(parts, paper):
    return is_crossing_witness(parts[0], paper)


def _shows_unlinked(parts, paper):
    return _has_odd_links(parts[0], paper, ())


def _shows_linked(parts, paper):
    return is_linking_witness(parts[0], paper)


def _shows_odd_crossings(parts, paper):
    graph, moves, pairs = parts
    return is_row(paper, 0) and _has_odd_crossings(graph, moves, pairs)


def _shows_odd_links(parts, paper):
    graph, passes, pairs = parts
    return is_row(paper, 0) and _has_odd_links(graph, passes, pairs)


def _shows_apex(parts, paper):
    graph, vertex = parts
    if not is_vertex(graph, vertex):
        return False
    if graph[0] == 1:
        return is_row(paper, 0)
    return is_flat(without_vertex(graph, vertex), paper)


def _shows_critical(parts, paper):
    graph, level = parts
    return is_level(level) and is_row(paper, 0) and is_critical(graph, level)


def _has_odd_crossings(graph, moves, pairs):
    """Whether these are moves, and these just the pairs with crossing parity 1."""
    # True and 1 are equal: being equal to the pairs is not enough.
    if type(pairs) is not tuple or not all([is_edge_pair(graph, pair) for pair in pairs]):
        return False
    try:
        return odd_crossings(graph, moves) == pairs
    except InvalidMoves:
        return False


def _has_odd_links(graph, passes, pairs):
    """Whether these are passes, and these just the pairs of cycles with linking parity 1."""
    if type(pairs) is not tuple or not all([is_cycle_pair(graph, pair) for pair in pairs]):
        return False
    try:
        return odd_links(graph, passes) == pairs
    except InvalidPasses:
        return False


# By the word of a claim and how many parts it has.
JUDGES = {
    ("of level", 2): _shows_of_level,
    ("above level", 2): _shows_above_level,
    ("minor", 2): _shows_minor,
    ("uncrossed", 1): _shows_uncrossed,
    ("crossed", 1): _shows_crossed,
    ("unlinked", 1): _shows_unlinked,
    ("linked", 1): _shows_linked,
    ("odd crossings", 3): _shows_odd_crossings,
    ("odd links", 3): _shows_odd_links,
    ("apex", 2): _shows_apex,
    ("critical", 2): _shows_critical,
}


def accepts(claim, paper):
    """Whether the claim is one, and the paper one of its papers."""
    if type(claim) is not tuple or len(claim) < 2:
        return False
    word, parts = claim[0], claim[1:]
    # Only a text is sure to be a key.
    if type(word) is not str or (word, len(parts)) not in JUDGES or not is_graph(parts[0]):
        return False
    judge = JUDGES[(word, len(parts))]
    return judge(parts, paper)
