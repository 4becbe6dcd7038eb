"""Graphs shown as texts, and read from them."""

from linkless.errors import InvalidText
from linkless.graphs import MOST_EDGES, MOST_VERTICES, check_graph
from linkless.words import ends_told, joined_up, number_told, words_of


def show_graph(graph):
    """The text of a graph, as it is shown."""
    check_graph(graph)
    vertices, edges = graph
    return " ".join([f"{vertices}:"] + [joined_up(edge) for edge in edges])


def read_graph(text):
    """The graph of a text."""
    if type(text) is not str:
        raise InvalidText(None)
    words = words_of(text)
    vertices = _vertices_told(words)
    if vertices is None:
        raise InvalidText(0)
    edges = []
    for index, word in enumerate(words[1:], start=1):
        edge = _edge_told(word, vertices)
        if edge is None or edge in edges or len(edges) == MOST_EDGES:
            raise InvalidText(index)
        edges.append(edge)
    return (vertices, tuple(sorted(edges)))


def _vertices_told(words):
    if not words or not words[0].endswith(":"):
        return None
    return number_told(words[0][:-1], 1, MOST_VERTICES)


def _edge_told(word, vertices):
    ends = ends_told(word, vertices - 1)
    return None if ends is None else tuple(sorted(ends))
