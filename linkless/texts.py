"""Graphs shown as texts, and read from them."""

from linkless.errors import InvalidText
from linkless.graphs import MOST_EDGES, MOST_VERTICES, check_graph


def show_graph(graph):
    """The text of a graph, as it is shown."""
    check_graph(graph)
    vertices, edges = graph
    return " ".join([f"{vertices}:"] + [f"{low}-{high}" for low, high in edges])


def read_graph(text):
    """The graph of a text."""
    if type(text) is not str:
        raise InvalidText(None)
    # No other white space than the blank parts words.
    words = [word for word in text.split(" ") if word]
    vertices = _vertices_told(words)
    if vertices is None:
        raise InvalidText(0)
    edges = []
    for index, word in enumerate(words[1:], start=1):
        edge = _edge_told(word, vertices)
        if edge is None or edge in edges or len(edges) == MOST_EDGES:
            raise InvalidText(index)
        edges.append(edge)
    return (vertices, tuple(sorted(edges)))


def _vertices_told(words):
    if not words or not words[0].endswith(":"):
        return None
    return _number_told(words[0][:-1], 1, MOST_VERTICES)


def _edge_told(word, vertices):
    ends = [_number_told(part, 0, vertices - 1) for part in word.split("-")]
    if len(ends) != 2 or None in ends or ends[0] == ends[1]:
        return None
    return (min(ends), max(ends))


def _number_told(word, least, greatest):
    # Compared with what is shown: noughts ahead, signs and foreign figures never pass.
    for number in range(least, greatest + 1):
        if str(number) == word:
            return number
    return None
