"""The sessions of the interface, as they stand there; names stay told from one to the next one."""

import unittest

GRAPHS = """
>>> from linkless.graphs import components, cycle_pairs, cycles, edge_pairs, is_graph
>>> prism = (6, ((0, 1), (0, 2), (0, 3), (1, 2), (1, 4), (2, 5), (3, 4), (3, 5), (4, 5)))
>>> [is_graph(prism), is_graph((2, ((1, 0),))), is_graph((2, [(0, 1)])), components((5, ((0, 3), (1, 4))))]
[True, False, False, ((0, 3), (1, 4), (2,))]
>>> [cycle_pairs(prism), cycles(prism)[:3], len(cycles(prism)), edge_pairs((4, ((0, 1), (1, 2), (2, 3))))]
[(((0, 1, 2), (3, 4, 5)),), ((0, 1, 2), (0, 1, 2, 5, 3), (0, 1, 2, 5, 4, 3)), 14, (((0, 1), (2, 3)),)]
"""

CHANGES = """
>>> from linkless.changes import claw_for, cone, contracted, triangle_for, without_edge, without_vertex
>>> [without_edge(prism, (2, 5))[1][5:], without_vertex(prism, 5), contracted(prism, (2, 5))]
[((3, 4), (3, 5), (4, 5)), (5, ((0, 1), (0, 2), (0, 3), (1, 2), (1, 4), (3, 4))), \
(5, ((0, 1), (0, 2), (0, 3), (1, 2), (1, 4), (2, 3), (2, 4), (3, 4)))]
>>> [cone((2, ((0, 1),))), claw_for(cone((2, ((0, 1),))), (0, 1, 2)), triangle_for((4, ((0, 3), (1, 3), (2, 3))), 3)]
[(3, ((0, 1), (0, 2), (1, 2))), (4, ((0, 3), (1, 3), (2, 3))), (3, ((0, 1), (0, 2), (1, 2)))]
>>> without_edge(prism, (0, 4))
raises InvalidEdge(given=(0, 4))
"""

TEXTS = """
>>> from linkless.texts import read_graph, show_graph
>>> [show_graph((3, ((0, 1), (1, 2)))), show_graph((1, ())), read_graph(" 4:  3-2 0-1 ")]
['3: 0-1 1-2', '1:', (4, ((0, 1), (2, 3)))]
>>> read_graph("3: 0-1 1-0")
raises InvalidText(index=2)
>>> read_graph("3: 0-1 1-3")
raises InvalidText(index=2)
"""

SESSIONS = GRAPHS + CHANGES + TEXTS


def told_by(row, names):
    """What Python tells of a row: nothing, a value, or an error with its attribute."""
    try:
        code = compile(row, "session", "eval")
    except SyntaxError:
        exec(row, names)
        return ""
    try:
        return repr(eval(code, names))
    except ValueError as error:
        (name, value), = vars(error).items()
        return f"raises {error.__class__.__name__}({name}={value!r})"


class ExamplesTest(unittest.TestCase):
    def test_sessions(self):
        names = {}
        steps = [step.split("\n") for step in SESSIONS.strip().removeprefix(">>> ").split("\n>>> ")]
        self.assertEqual(len(steps), 12)
        for row, *expected in steps:
            with self.subTest(row):
                self.assertEqual(told_by(row, names), "\n".join(expected).strip())


if __name__ == "__main__":
    unittest.main()
