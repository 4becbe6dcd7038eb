import copy
import unittest

from linkless.changes import claw_for, cone, contracted, triangle_for, without_edge, without_vertex
from linkless.errors import InvalidEdge, InvalidGraph, InvalidTriangle, InvalidVertex, TooMany
from linkless.graphs import is_graph
from ways import (ANYTHING, FULL_ROUND, LARGE, NO_GRAPHS, PETERSEN, PRISM, SMALL, all_graphs, halves_graph,
                  whole_graph)

GRAPHS = SMALL + LARGE + all_graphs(4)
CLAW = (4, ((0, 3), (1, 3), (2, 3)))
FULL_TEN = (10, whole_graph(7)[1] + ((7, 8), (7, 9), (8, 9)))


def put_together(lots, pairs):
    """The graph of these lots as vertices, in this order: joined where a pair has an end in each of both."""
    joined = {frozenset(k for k, lot in enumerate(lots) if set(lot) & set(pair)) for pair in pairs}
    return (len(lots), tuple(sorted(tuple(sorted(pair)) for pair in joined if len(pair) == 2)))


def singles(graph, but=()):
    return [(vertex,) for vertex in range(graph[0]) if vertex not in but]


def neighbours_of(graph, vertex):
    return [sum(edge) - vertex for edge in graph[1] if vertex in edge]


class ChangesTest(unittest.TestCase):
    def refused(self, error, given, change, *rows):
        """The change of these rows raises just this error with this value, of this very kind."""
        with self.assertRaises(error) as caught:
            change(*rows)
        self.assertEqual((type(caught.exception), type(caught.exception.given)), (error, type(given)))
        self.assertEqual(caught.exception.given, given)

    def refused_as_it_is(self, error, change, graph, value):
        """The change of this graph raises just this error with the very value that was passed."""
        with self.assertRaises(error) as caught:
            change(graph, value)
        self.assertIs(type(caught.exception), error)
        self.assertIs(caught.exception.given, value)


class WithoutEdgeTest(ChangesTest):
    def test_each_edge_of_each_graph(self):
        for graph in GRAPHS:
            for edge in graph[1]:
                left = tuple(sorted(set(graph[1]) - {edge}))
                self.assertEqual(without_edge(graph, edge), (graph[0], left))

    def test_no_edges(self):
        for change in (without_edge, contracted):
            for value in ANYTHING:
                self.refused_as_it_is(InvalidEdge, change, without_edge(PRISM, (0, 1)), value)
            for value in [(1, 0), (0, 4), (0, 0), (0, 6), (-1, 0), (False, 1), (0, True), [0, 1], (0, 1, 2), ((0, 1),),
                          "01", (0, "1"), (0, None)]:
                self.refused_as_it_is(InvalidEdge, change, PRISM, value)
            self.refused(InvalidEdge, (0, 1), change, (2, ()), (0, 1))

    def test_by_name(self):
        self.assertEqual(without_edge(edge=(0, 1), graph=(2, ((0, 1),))), (2, ()))
        self.assertEqual(contracted(edge=(0, 1), graph=(2, ((0, 1),))), (1, ()))


class WithoutVertexTest(ChangesTest):
    def test_each_vertex_of_each_graph(self):
        for graph in GRAPHS:
            for vertex in range(graph[0]) if graph[0] > 1 else ():
                left = [edge for edge in graph[1] if vertex not in edge]
                self.assertEqual(without_vertex(graph, vertex), put_together(singles(graph, (vertex,)), left))

    def test_by_hand(self):
        self.assertEqual(without_vertex((4, ((0, 3), (1, 2), (2, 3))), 1), (3, ((0, 2), (1, 2))))
        self.assertEqual(without_vertex((2, ((0, 1),)), 0), (1, ()))
        self.assertEqual(without_vertex(vertex=1, graph=(3, ((0, 2),))), (2, ((0, 1),)))

    def test_the_only_vertex(self):
        self.refused(InvalidVertex, 0, without_vertex, (1, ()), 0)
        self.refused(InvalidVertex, 0, triangle_for, (1, ()), 0)

    def test_no_vertices(self):
        # 0 and 1 are whole numbers: of what is among the values of any kind, these alone are vertices.
        values = [value for value in ANYTHING if type(value) is not int] + [6, 7, -1, -6, 10 ** 99, "0", (0,), [0]]
        for change in (without_vertex, triangle_for):
            for value in values:
                self.refused_as_it_is(InvalidVertex, change, PRISM, value)


class ContractedTest(ChangesTest):
    def test_each_edge_of_each_graph(self):
        for graph in GRAPHS:
            for edge in graph[1]:
                lots = [edge if lot == edge[:1] else lot for lot in singles(graph, edge[1:])]
                self.assertEqual(contracted(graph, edge), put_together(lots, graph[1]))

    def test_by_hand(self):
        # What would stand twice stands once, the edge itself not as a loop.
        self.assertEqual(contracted(whole_graph(3), (0, 2)), (2, ((0, 1),)))
        # Edges of the greater end that come below the lesser one are turned about.
        self.assertEqual(contracted((4, ((0, 3), (1, 3), (2, 3))), (2, 3)), (3, ((0, 2), (1, 2))))
        self.assertEqual(contracted((5, ((0, 1), (1, 4), (2, 4))), (0, 1)), (4, ((0, 3), (1, 3))))


class ConeTest(ChangesTest):
    def test_each_graph_that_has_one(self):
        for graph in GRAPHS:
            if graph[0] < 10 and len(graph[1]) + graph[0] <= 24:
                vertices, edges = cone(graph)
                self.assertEqual(vertices, graph[0] + 1)
                self.assertEqual(set(edges), set(graph[1]) | {(vertex, graph[0]) for vertex in range(graph[0])})
                self.assertTrue(is_graph((vertices, edges)))

    def test_bounds(self):
        nine = (9, whole_graph(6)[1])
        self.assertEqual([cone(nine)[0], len(cone(nine)[1])], [10, 24])
        self.assertEqual(cone(graph=(1, ())), (2, ((0, 1),)))
        self.refused(TooMany, 25, cone, (9, whole_graph(9)[1][:16]))
        self.refused(TooMany, 28, cone, whole_graph(7))
        self.refused(TooMany, 33, cone, (9, whole_graph(9)[1][:24]))
        self.refused(TooMany, 11, cone, (10, ()))

    def test_vertices_ahead_of_edges(self):
        for graph in LARGE:
            self.refused(TooMany, 11, cone, graph)


class ClawForTest(ChangesTest):
    def test_each_triangle_of_each_graph(self):
        many = 0
        for graph in GRAPHS:
            for low, middle, high in triangles(graph) if graph[0] < 10 else ():
                vertices, edges = claw_for(graph, (low, middle, high))
                gone = {(low, middle), (low, high), (middle, high)}
                come = {(low, graph[0]), (middle, graph[0]), (high, graph[0])}
                self.assertEqual((vertices, set(edges)), (graph[0] + 1, set(graph[1]) - gone | come))
                self.assertTrue(is_graph((vertices, edges)))
                many += 1
        self.assertGreater(many, 30)

    def test_bounds(self):
        nine = (9, whole_graph(9)[1][:24])
        self.assertEqual([claw_for(nine, (0, 1, 2))[0], len(claw_for(nine, (0, 1, 2))[1])], [10, 24])
        self.refused(TooMany, 11, claw_for, (10, whole_graph(3)[1]), (0, 1, 2))
        self.refused(TooMany, 11, claw_for, FULL_TEN, (7, 8, 9))

    def test_no_triangles(self):
        for value in ANYTHING:
            self.refused_as_it_is(InvalidTriangle, claw_for, PETERSEN, value)
        for value in [(0, 1, 3), (3, 4, 6), (0, 2, 1), (1, 0, 2), (2, 1, 0), (0, 0, 1), (0, 1, 1), [0, 1, 2],
                      (False, True, 2), (0, True, 2), (0, 1, 2, 3), (0, 1), ((0, 1, 2),), (0, 1, "2"), (0, 1, None)]:
            self.refused_as_it_is(InvalidTriangle, claw_for, PRISM, value)
        # Two sides are not enough.
        for two in (((0, 1), (0, 2)), ((0, 1), (1, 2)), ((0, 2), (1, 2))):
            self.refused(InvalidTriangle, (0, 1, 2), claw_for, (3, two), (0, 1, 2))

    def test_too_many_is_told_last(self):
        self.refused(InvalidTriangle, (0, 1, 2), claw_for, PETERSEN, (0, 1, 2))
        self.refused(InvalidTriangle, None, claw_for, FULL_TEN, None)

    def test_by_name(self):
        self.assertEqual(claw_for(triangle=(0, 1, 2), graph=whole_graph(3)), CLAW)


class TriangleForTest(ChangesTest):
    def test_each_vertex_of_each_graph(self):
        taken = 0
        for graph in GRAPHS:
            for vertex in range(graph[0]):
                around = neighbours_of(graph, vertex)
                if len(around) != 3:
                    self.refused(InvalidVertex, vertex, triangle_for, graph, vertex)
                else:
                    sides = [(one, other) for one in around for other in around if one < other]
                    left = [edge for edge in graph[1] if vertex not in edge] + sides
                    self.assertEqual(triangle_for(graph, vertex), put_together(singles(graph, (vertex,)), left))
                    taken += 1
        self.assertGreater(taken, 50)

    def test_by_hand(self):
        # Neighbours that are joined already are not joined twice.
        self.assertEqual(triangle_for(whole_graph(4), 1), whole_graph(3))
        self.assertEqual(triangle_for(vertex=0, graph=(4, ((0, 1), (0, 2), (0, 3)))), whole_graph(3))
        self.assertEqual(triangle_for(halves_graph(3, 3), 0),
                         (5, ((0, 2), (0, 3), (0, 4), (1, 2), (1, 3), (1, 4), (2, 3), (2, 4), (3, 4))))

    def test_back_and_forth(self):
        self.assertEqual(triangle_for(claw_for(whole_graph(6), (1, 3, 4)), 6), whole_graph(6))


class AllChangesTest(ChangesTest):
    def test_no_graphs_are_refused_first(self):
        changes = [(without_edge, "edge"), (without_vertex, "vertex"), (contracted, "edge"), (claw_for, "triangle"),
                   (triangle_for, "vertex")]
        for at, value in enumerate(NO_GRAPHS):
            for change, name in changes:
                for second in (None, (1, 0), 99):
                    with self.subTest(at=at, change=change.__name__), self.assertRaises(InvalidGraph) as caught:
                        change(**{name: second, "graph": value})
                    self.assertIs(caught.exception.given, value)
            self.assertRaises(InvalidGraph, cone, graph=value)

    def test_what_comes_is_a_graph_and_comes_again(self):
        for graph in [PRISM, FULL_ROUND, whole_graph(6)]:
            before = copy.deepcopy(graph)
            for change, second in ((without_edge, (0, 1)), (without_vertex, 2), (contracted, (0, 1))):
                self.assertTrue(is_graph(change(graph, second)))
                self.assertEqual(change(graph, second), change(graph, second))
                self.assertEqual(graph, before)


def triangles(graph):
    joined = set(graph[1])
    return [(a, b, c) for a, b in graph[1] for c in range(b + 1, graph[0]) if {(a, c), (b, c)} <= joined]


if __name__ == "__main__":
    unittest.main()
