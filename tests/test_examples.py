"""The sessions of the interface, as they stand there; names stay told from one to the next one."""

import re
import unittest
from pathlib import Path

GRAPHS = """
>>> from linkless.graphs import components, cycle_pairs, cycles, edge_pairs, is_graph
>>> prism = (6, ((0, 1), (0, 2), (0, 3), (1, 2), (1, 4), (2, 5), (3, 4), (3, 5), (4, 5)))
>>> [is_graph(prism), is_graph((2, ((1, 0),))), is_graph((2, [(0, 1)])), components((5, ((0, 3), (1, 4))))]
[True, False, False, ((0, 3), (1, 4), (2,))]
>>> [cycle_pairs(prism), cycles(prism)[:3], len(cycles(prism)), edge_pairs((4, ((0, 1), (1, 2), (2, 3))))]
[(((0, 1, 2), (3, 4, 5)),), ((0, 1, 2), (0, 1, 2, 5, 3), (0, 1, 2, 5, 4, 3)), 14, (((0, 1), (2, 3)),)]
"""

CHANGES = """
>>> from linkless.changes import claw_for, cone, contracted, triangle_for, without_edge, without_vertex
>>> [without_edge(prism, (2, 5))[1][5:], without_vertex(prism, 5), contracted(prism, (2, 5))]
[((3, 4), (3, 5), (4, 5)), (5, ((0, 1), (0, 2), (0, 3), (1, 2), (1, 4), (3, 4))), \
(5, ((0, 1), (0, 2), (0, 3), (1, 2), (1, 4), (2, 3), (2, 4), (3, 4)))]
>>> [cone((2, ((0, 1),))), claw_for(cone((2, ((0, 1),))), (0, 1, 2)), triangle_for((4, ((0, 3), (1, 3), (2, 3))), 3)]
[(3, ((0, 1), (0, 2), (1, 2))), (4, ((0, 3), (1, 3), (2, 3))), (3, ((0, 1), (0, 2), (1, 2)))]
>>> without_edge(prism, (0, 4))
raises InvalidEdge(given=(0, 4))
"""

TEXTS = """
>>> from linkless.texts import read_graph, show_graph
>>> [show_graph((3, ((0, 1), (1, 2)))), show_graph((1, ())), read_graph(" 4:  3-2 0-1 ")]
['3: 0-1 1-2', '1:', (4, ((0, 1), (2, 3)))]
>>> read_graph("3: 0-1 1-0")
raises InvalidText(index=2)
>>> read_graph("3: 0-1 1-3")
raises InvalidText(index=2)
"""

MINORS = """
>>> from linkless.minors import family, is_model, minor
>>> [family(1), len(family(4)), [len(other[1]) for other in family(4)]]
[((3, ((0, 1), (0, 2), (1, 2))), (4, ((0, 3), (1, 3), (2, 3)))), 7, [15, 15, 15, 15, 15, 15, 15]]
>>> k4 = family(2)[0]
>>> [is_model(prism, k4, ((0,), (1,), (2,), (3, 4, 5))), is_model(prism, k4, ((0,), (1,), (2,), (3, 4))), \
is_model(prism, k4, ((0,), (1,), (2, 5), (3, 4)))]
[True, False, True]
>>> [minor(prism, 3), minor(family(4)[0], 4)[0], minor(family(3)[1], 4)]
[None, 0, None]
>>> index, model = minor(prism, 2)
>>> is_model(prism, family(2)[index], model)
True
"""

PLANES = """
>>> from linkless.planes import is_flat, is_laying, is_outer, outer_rotation, paths_of, rotation_of, walks_of
>>> flat = ((1, 2, 3), (2, 0, 4), (0, 1, 5), (0, 5, 4), (1, 3, 5), (2, 4, 3))
>>> [is_flat(prism, flat), walks_of(prism, flat)]
[True, ((0, 1, 4, 3), (0, 2, 1), (0, 3, 5, 2), (1, 2, 5, 4), (3, 4, 5))]
>>> [is_flat(prism, ((1, 2, 3), (0, 2, 4)) + flat[2:]), is_outer(prism, flat), outer_rotation(prism), \
is_flat(prism, rotation_of(prism))]
[False, False, None, True]
>>> [paths_of((3, ((0, 2), (1, 2)))) in (((0, 2, 1),), ((1, 2, 0),)), paths_of(prism), \
is_laying((2, ()), ((1,), (0,))), rotation_of((2, ()))]
[True, None, True, ((), ())]
"""

CROSSINGS = """
>>> from linkless.crossings import crossing_witness, is_crossing_witness, moves_of, odd_crossings
>>> [odd_crossings(prism, ()), odd_crossings(k4, ()), odd_crossings(k4, (((0, 2), 1),))]
[(((0, 2), (1, 4)), ((0, 3), (1, 4)), ((0, 3), (2, 5)), ((1, 4), (2, 5)), ((1, 4), (3, 5))), (((0, 2), (1, 3)),), ()]
>>> [odd_crossings(prism, moves_of(prism)), crossing_witness(prism), moves_of(family(3)[0])]
[(), None, None]
>>> from linkless.graphs import edge_pairs
>>> [is_crossing_witness(other, edge_pairs(other)) for other in family(3)]
[True, True]
"""

LINKS = """
>>> from linkless.links import is_linking_witness, linking_witness, odd_links, passes_of
>>> [odd_links(prism, ()), odd_links(prism, (((0, 1), (3, 4)),)), passes_of(prism) is None, linking_witness(prism)]
[(), (((0, 1, 2), (3, 4, 5)),), False, None]
>>> k6 = family(4)[0]
>>> [odd_links(k6, ()), passes_of(k6), [is_linking_witness(other, cycle_pairs(other)) for other in family(4)]]
[(((0, 2, 4), (1, 3, 5)),), None, [True, True, True, True, True, True, True]]
>>> [len(odd_links(k6, (((0, 1), (2, 3)),))), is_linking_witness(k6, (((0, 2, 4), (1, 3, 5)),))]
[3, False]
>>> named = (7, ((0, 2), (0, 3), (0, 5), (0, 6), (1, 2), (1, 3), (1, 5), (1, 6), (2, 4), (2, 5), (3, 4), (3, 5), \
(4, 5), (4, 6), (5, 6)))
>>> [len(odd_links(named, ())), is_linking_witness(named, cycle_pairs(named))]
[3, True]
"""

LEVELS = """
>>> from linkless.levels import apexes, is_critical, is_of_level, least_level, most_edges
>>> [least_level((4, ((0, 1), (1, 2)))), least_level(prism), least_level(family(3)[1]), least_level(k6), \
least_level(cone(prism))]
[1, 3, 4, 5, 4]
>>> [[most_edges(level, 6) for level in (1, 2, 3, 4)], most_edges(4, 3), apexes(family(3)[0]), apexes(k6), apexes(prism)]
[[5, 9, 12, 14], 3, (0, 1, 2, 3, 4), (), (0, 1, 2, 3, 4, 5)]
>>> [all([is_critical(other, level) for level in (1, 2, 3, 4) for other in family(level)]), is_critical(k6, 3), \
is_of_level(without_edge(k6, (2, 4)), 4)]
[True, False, True]
"""

CLAIMS = """
>>> from linkless.certificates import certify_crossing, certify_level, certify_linking
>>> from linkless.checker import accepts
>>> [accepts(("of level", prism, 3), flat), accepts(("of level", prism, 4), ()), \
accepts(("above level", prism, 2), (0, ((0,), (1,), (2,), (3, 4, 5)))), \
accepts(("above level", prism, 3), (0, ((0,), (1,), (2,), (3, 4, 5))))]
[True, True, True, False]
>>> [certify_linking(k6)[0][0], certify_linking(prism)[0], certify_crossing(k6)[0][0], certify_level(k6, 4)[0][0], \
certify_level(prism, 3)[0][0]]
['linked', ('unlinked', (6, ((0, 1), (0, 2), (0, 3), (1, 2), (1, 4), (2, 5), (3, 4), (3, 5), (4, 5)))), 'crossed', \
'above level', 'of level']
>>> [accepts(("linked", k6), cycle_pairs(k6)), accepts(("unlinked", k6), ()), \
accepts(("apex", prism, 0), ((1, 3), (0, 4), (3, 4), (0, 2, 4), (1, 3, 2))), accepts(("critical", k6, 4), ())]
[True, False, True, True]
"""

CONSOLE = """
>>> from linkless.console import fresh_console, said, told_all
>>> told_all(fresh_console(), ("show", "graph 4: 0-1 1-2 2-3", "level", "components", "cone", "level", "cycles", "pairs", \
"most 4 6", "graph 3: 0-3", "claw 0 1 2", "back", "level"))[1]
('nothing yet', '4 vertices, 3 edges', '1', '0-1-2-3', '5 vertices, 7 edges', '2', '6', '0', '14', 'not read at 1', \
'not there', 'back', '1')
>>> told_all(fresh_console(), ("family 4 0", "level", "pairs", "odd", "odd 2-3 0-1", "passes", "critical 4", \
"delete 0-1", "level", "drop 9", "apexes", "back", "back", "back"))[1][:5]
('6 vertices, 15 edges', '5', '10', '1', '3')
>>> said(fresh_console(), 5)
raises InvalidLines(index=None)
"""

SESSIONS = GRAPHS + CHANGES + TEXTS + MINORS + PLANES + CROSSINGS + LINKS + LEVELS + CLAIMS + CONSOLE


def told_by(row, names):
    """What Python tells of a row: nothing, a value, or an error with its attribute."""
    try:
        code = compile(row, "session", "eval")
    except SyntaxError:
        exec(row, names)
        return ""
    try:
        return repr(eval(code, names))
    except ValueError as error:
        (name, value), = vars(error).items()
        return f"raises {error.__class__.__name__}({name}={value!r})"


class ExamplesTest(unittest.TestCase):
    def check(self, sessions, many):
        """Each of this many steps tells what stands behind it."""
        names = {}
        steps = [step.split("\n") for step in sessions.strip().removeprefix(">>> ").split("\n>>> ")]
        self.assertEqual(len(steps), many)
        for row, *expected in steps:
            with self.subTest(row):
                self.assertEqual(told_by(row, names), "\n".join(expected).strip())

    def test_sessions(self):
        self.check(SESSIONS, 49)

    def test_sessions_of_the_readme(self):
        text = (Path(__file__).resolve().parent.parent / "README.md").read_text("ascii")
        self.check("".join(re.findall("```\n(.*?)```", text, re.DOTALL)), 23)


if __name__ == "__main__":
    unittest.main()
