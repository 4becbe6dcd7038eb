"""The sessions of the interface, as they stand there; names stay told from one to the next one."""

import unittest

GRAPHS = """
>>> from linkless.graphs import components, cycle_pairs, cycles, edge_pairs, is_graph
>>> prism = (6, ((0, 1), (0, 2), (0, 3), (1, 2), (1, 4), (2, 5), (3, 4), (3, 5), (4, 5)))
>>> [is_graph(prism), is_graph((2, ((1, 0),))), is_graph((2, [(0, 1)])), components((5, ((0, 3), (1, 4))))]
[True, False, False, ((0, 3), (1, 4), (2,))]
>>> [cycle_pairs(prism), cycles(prism)[:3], len(cycles(prism)), edge_pairs((4, ((0, 1), (1, 2), (2, 3))))]
[(((0, 1, 2), (3, 4, 5)),), ((0, 1, 2), (0, 1, 2, 5, 3), (0, 1, 2, 5, 4, 3)), 14, (((0, 1), (2, 3)),)]
"""

CHANGES = """
>>> from linkless.changes import claw_for, cone, contracted, triangle_for, without_edge, without_vertex
>>> [without_edge(prism, (2, 5))[1][5:], without_vertex(prism, 5), contracted(prism, (2, 5))]
[((3, 4), (3, 5), (4, 5)), (5, ((0, 1), (0, 2), (0, 3), (1, 2), (1, 4), (3, 4))), \
(5, ((0, 1), (0, 2), (0, 3), (1, 2), (1, 4), (2, 3), (2, 4), (3, 4)))]
>>> [cone((2, ((0, 1),))), claw_for(cone((2, ((0, 1),))), (0, 1, 2)), triangle_for((4, ((0, 3), (1, 3), (2, 3))), 3)]
[(3, ((0, 1), (0, 2), (1, 2))), (4, ((0, 3), (1, 3), (2, 3))), (3, ((0, 1), (0, 2), (1, 2)))]
>>> without_edge(prism, (0, 4))
raises InvalidEdge(given=(0, 4))
"""

TEXTS = """
>>> from linkless.texts import read_graph, show_graph
>>> [show_graph((3, ((0, 1), (1, 2)))), show_graph((1, ())), read_graph(" 4:  3-2 0-1 ")]
['3: 0-1 1-2', '1:', (4, ((0, 1), (2, 3)))]
>>> read_graph("3: 0-1 1-0")
raises InvalidText(index=2)
>>> read_graph("3: 0-1 1-3")
raises InvalidText(index=2)
"""

MINORS = """
>>> from linkless.minors import family, is_model, minor
>>> [family(1), len(family(4)), [len(other[1]) for other in family(4)]]
[((3, ((0, 1), (0, 2), (1, 2))), (4, ((0, 3), (1, 3), (2, 3)))), 7, [15, 15, 15, 15, 15, 15, 15]]
>>> k4 = family(2)[0]
>>> [is_model(prism, k4, ((0,), (1,), (2,), (3, 4, 5))), is_model(prism, k4, ((0,), (1,), (2,), (3, 4))), \
is_model(prism, k4, ((0,), (1,), (2, 5), (3, 4)))]
[True, False, True]
>>> [minor(prism, 3), minor(family(4)[0], 4)[0], minor(family(3)[1], 4)]
[None, 0, None]
>>> index, model = minor(prism, 2)
>>> is_model(prism, family(2)[index], model)
True
"""

PLANES = """
>>> from linkless.planes import is_flat, is_laying, is_outer, outer_rotation, paths_of, rotation_of, walks_of
>>> flat = ((1, 2, 3), (2, 0, 4), (0, 1, 5), (0, 5, 4), (1, 3, 5), (2, 4, 3))
>>> [is_flat(prism, flat), walks_of(prism, flat)]
[True, ((0, 1, 4, 3), (0, 2, 1), (0, 3, 5, 2), (1, 2, 5, 4), (3, 4, 5))]
>>> [is_flat(prism, ((1, 2, 3), (0, 2, 4)) + flat[2:]), is_outer(prism, flat), outer_rotation(prism), \
is_flat(prism, rotation_of(prism))]
[False, False, None, True]
>>> [paths_of((3, ((0, 2), (1, 2)))) in (((0, 2, 1),), ((1, 2, 0),)), paths_of(prism), \
is_laying((2, ()), ((1,), (0,))), rotation_of((2, ()))]
[True, None, True, ((), ())]
"""

CROSSINGS = """
>>> from linkless.crossings import crossing_witness, is_crossing_witness, moves_of, odd_crossings
>>> [odd_crossings(prism, ()), odd_crossings(k4, ()), odd_crossings(k4, (((0, 2), 1),))]
[(((0, 2), (1, 4)), ((0, 3), (1, 4)), ((0, 3), (2, 5)), ((1, 4), (2, 5)), ((1, 4), (3, 5))), (((0, 2), (1, 3)),), ()]
>>> [odd_crossings(prism, moves_of(prism)), crossing_witness(prism), moves_of(family(3)[0])]
[(), None, None]
>>> from linkless.graphs import edge_pairs
>>> [is_crossing_witness(other, edge_pairs(other)) for other in family(3)]
[True, True]
"""

LINKS = """
>>> from linkless.links import is_linking_witness, linking_witness, odd_links, passes_of
>>> [odd_links(prism, ()), odd_links(prism, (((0, 1), (3, 4)),)), passes_of(prism) is None, linking_witness(prism)]
[(), (((0, 1, 2), (3, 4, 5)),), False, None]
>>> k6 = family(4)[0]
>>> [odd_links(k6, ()), passes_of(k6), [is_linking_witness(other, cycle_pairs(other)) for other in family(4)]]
[(((0, 2, 4), (1, 3, 5)),), None, [True, True, True, True, True, True, True]]
>>> [len(odd_links(k6, (((0, 1), (2, 3)),))), is_linking_witness(k6, (((0, 2, 4), (1, 3, 5)),))]
[3, False]
>>> named = (7, ((0, 2), (0, 3), (0, 5), (0, 6), (1, 2), (1, 3), (1, 5), (1, 6), (2, 4), (2, 5), (3, 4), (3, 5), \
(4, 5), (4, 6), (5, 6)))
>>> [len(odd_links(named, ())), is_linking_witness(named, cycle_pairs(named))]
[3, True]
"""

SESSIONS = GRAPHS + CHANGES + TEXTS + MINORS + PLANES + CROSSINGS + LINKS


def told_by(row, names):
    """What Python tells of a row: nothing, a value, or an error with its attribute."""
    try:
        code = compile(row, "session", "eval")
    except SyntaxError:
        exec(row, names)
        return ""
    try:
        return repr(eval(code, names))
    except ValueError as error:
        (name, value), = vars(error).items()
        return f"raises {error.__class__.__name__}({name}={value!r})"


class ExamplesTest(unittest.TestCase):
    def test_sessions(self):
        names = {}
        steps = [step.split("\n") for step in SESSIONS.strip().removeprefix(">>> ").split("\n>>> ")]
        self.assertEqual(len(steps), 36)
        for row, *expected in steps:
            with self.subTest(row):
                self.assertEqual(told_by(row, names), "\n".join(expected).strip())


if __name__ == "__main__":
    unittest.main()
