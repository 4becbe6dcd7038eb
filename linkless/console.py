"""The console: lines that set, ask and change a graph, with a way back."""

from linkless.answers import GREATEST_NUMBER, answer_to, edge_told, is_asking, level_told
from linkless.changes import claw_for, cone, contracted, triangle_for, without_edge, without_vertex
from linkless.errors import InvalidEdge, InvalidLines, InvalidText, InvalidTriangle, InvalidVertex, TooMany
from linkless.graphs import MOST_VERTICES
from linkless.levels import most_edges
from linkless.minors import family
from linkless.texts import read_graph
from linkless.values import is_ascending
from linkless.words import number_told, words_of

MOST_EARLIER = 20
MOST_LINES = 60
NOT_UNDERSTOOD = "not understood"
# How many words stand behind the first one of a line that changes the graph.
CHANGES = {"delete": 1, "contract": 1, "drop": 1, "cone": 0, "claw": 3, "triangle": 1}


def fresh_console():
    """The console without a graph and without earlier ones."""
    return (None, ())


def said(console, line):
    """The console behind a line, and the answer."""
    if type(line) is not str:
        raise InvalidLines(None)
    words = [] if "\n" in line else words_of(line)
    if words == ["back"]:
        return _gone_back(console)
    state, answer = _outcome(console[0], words)
    return (_led_to(console, state), answer)


def told_all(console, lines):
    """The console behind all lines, and the tuple of the answers."""
    if type(lines) is not tuple or len(lines) > MOST_LINES:
        raise InvalidLines(None)
    for index, line in enumerate(lines):
        if type(line) is not str:
            raise InvalidLines(index)
    here = console
    answers = []
    for line in lines:
        here, answer = said(here, line)
        answers.append(answer)
    return (here, tuple(answers))


def _gone_back(console):
    earlier = console[1]
    if not earlier:
        return (console, "nothing there")
    return ((earlier[-1], earlier[:-1]), "back")


def _led_to(console, state):
    """The console with this state behind a line that is not back."""
    before, earlier = console
    if state == before:
        return console
    return (state, (earlier + (before,))[-MOST_EARLIER:])


def _outcome(state, words):
    """The state behind a line of these words, and the answer."""
    first = words[0] if words else ""
    if first == "graph":
        return _read(state, words[1:])
    if first == "family":
        return _taken(state, words[1:])
    if first == "most":
        return (state, _most(words[1:]))
    if first not in CHANGES and not is_asking(first):
        return (state, NOT_UNDERSTOOD)
    if state is None:
        return (state, "nothing yet")
    if first in CHANGES:
        return _changed(state, words)
    answer = answer_to(state, words)
    return (state, NOT_UNDERSTOOD if answer is None else answer)


def _read(state, words):
    try:
        graph = read_graph(" ".join(words))
    except InvalidText as error:
        return (state, f"not read at {error.index}")
    return (graph, _size(graph))


def _taken(state, words):
    """A graph of a family as the state."""
    if len(words) != 2:
        return (state, NOT_UNDERSTOOD)
    level = level_told(words[0])
    graphs = () if level is None else family(level)
    index = number_told(words[1], 0, len(graphs) - 1)
    if index is None:
        return (state, NOT_UNDERSTOOD)
    return (graphs[index], _size(graphs[index]))


def _most(words):
    if len(words) != 2:
        return NOT_UNDERSTOOD
    level, vertices = level_told(words[0]), number_told(words[1], 1, MOST_VERTICES)
    if level is None or vertices is None:
        return NOT_UNDERSTOOD
    return str(most_edges(level, vertices))


def _changed(state, words):
    """The state behind a change, and the answer."""
    first, rest = words[0], words[1:]
    place = _place_told(first, rest) if len(rest) == CHANGES[first] else None
    if place is None:
        return (state, NOT_UNDERSTOOD)
    try:
        graph = _change(state, first, place)
    except (InvalidEdge, InvalidVertex, InvalidTriangle):
        return (state, "not there")
    except TooMany as error:
        return (state, f"too many: {error.given}")
    return (graph, _size(graph))


def _place_told(first, rest):
    """The edge, the vertex or the three vertices at which a change is told, () for a cone; None."""
    if first in ("delete", "contract"):
        return edge_told(rest[0])
    numbers = tuple([number_told(word, 0, GREATEST_NUMBER) for word in rest])
    if None in numbers or not is_ascending(numbers):
        return None
    return numbers[0] if len(numbers) == 1 else numbers


def _change(graph, first, place):
    if first == "delete":
        return without_edge(graph, place)
    if first == "contract":
        return contracted(graph, place)
    if first == "drop":
        return without_vertex(graph, place)
    if first == "triangle":
        return triangle_for(graph, place)
    if first == "claw":
        return claw_for(graph, place)
    return cone(graph)


def _size(graph):
    vertices, edges = graph
    return f"{vertices} vertices, {len(edges)} edges"
