import copy
import unittest
from itertools import combinations
from math import comb, factorial

from linkless.errors import InvalidGraph
from linkless.graphs import components, cycle_pairs, cycles, edge_pairs, is_graph
from ways import (FULL, FULL_HALVES, FULL_ROUND, LARGE, NO_GRAPHS, PETERSEN, PRISM, SMALL, all_graphs,
                  components_by_merging, cycles_by_even_lots, cycles_by_orders, halves_graph, pairs_by_even_lots,
                  whole_graph)

ASKED = (components, cycles, cycle_pairs, edge_pairs)


class IsGraphTest(unittest.TestCase):
    def test_graphs(self):
        for graph in SMALL + LARGE + all_graphs(4) + [(10, ()), (10, ((8, 9),)), (7, whole_graph(7)[1])]:
            self.assertIs(is_graph(graph), True, graph)

    def test_counts_of_the_large_ones(self):
        for graph in LARGE[1:]:
            self.assertEqual((graph[0], len(graph[1])), (10, 24))

    def test_no_graphs(self):
        for at, value in enumerate(NO_GRAPHS):
            with self.subTest(at=at):
                self.assertIs(is_graph(value), False)

    def test_each_single_fault(self):
        vertices, edges = PRISM
        for k, (low, high) in enumerate(edges):
            for wrong in ((high, low), (low, low), (low, 6), (-1, high), [low, high], (low, high, high), (low,),
                          (low, str(high)), low, None):
                self.assertIs(is_graph((vertices, edges[:k] + (wrong,) + edges[k + 1:])), False, wrong)
            self.assertIs(is_graph((vertices, edges[:k] + edges[k:k + 1] + edges[k:])), False)
            self.assertIs(is_graph((vertices, edges[:k] + edges[k + 1:] + edges[k:k + 1])), k == 8)

    def test_truths_are_no_numbers(self):
        self.assertIs(is_graph((3, ((0, 1), (1, 2)))), True)
        for wrong in ((True, ()), (3, ((False, 1),)), (3, ((0, True),)), (3, ((True, 2),)), (3, ((0, 1), (True, 2)))):
            self.assertIs(is_graph(wrong), False, wrong)

    def test_by_name(self):
        self.assertIs(is_graph(value=PRISM), True)


class AskedTest(unittest.TestCase):
    def test_no_graphs_are_refused(self):
        for asked in ASKED:
            for at, value in enumerate(NO_GRAPHS):
                with self.subTest(asked=asked.__name__, at=at):
                    with self.assertRaises(InvalidGraph) as caught:
                        asked(value)
                    self.assertIs(caught.exception.given, value)

    def test_by_name_again_and_without_change(self):
        for asked in ASKED:
            for graph in SMALL + LARGE:
                before = copy.deepcopy(graph)
                self.assertEqual(asked(graph=graph), asked(graph))
                self.assertEqual(graph, before)

    def test_rows_are_tuples_of_numbers(self):
        def shape(value):
            return {type(value)} | (set().union(*map(shape, value)) if isinstance(value, (tuple, list)) else set())
        for asked in ASKED:
            for graph in SMALL + LARGE:
                self.assertLessEqual(shape(asked(graph)), {tuple, int})

    def test_nothing_to_tell(self):
        self.assertEqual([asked((1, ())) for asked in ASKED], [((0,),), (), (), ()])
        self.assertEqual([asked((2, ((0, 1),))) for asked in ASKED], [((0, 1),), (), (), ()])


class ComponentsTest(unittest.TestCase):
    def test_against_merging(self):
        graphs = SMALL + LARGE + all_graphs(4) + all_graphs(5) + [(10, ()), (10, ((0, 9), (1, 8), (2, 9), (4, 8)))]
        for graph in graphs:
            self.assertEqual(components(graph), components_by_merging(graph), graph)

    def test_by_hand(self):
        self.assertEqual(components((10, ((0, 9), (1, 8), (2, 9), (4, 8)))),
                         ((0, 2, 9), (1, 4, 8), (3,), (5,), (6,), (7,)))


class CyclesTest(unittest.TestCase):
    def test_against_all_orders(self):
        for graph in SMALL + all_graphs(4) + all_graphs(5):
            self.assertEqual(cycles(graph), cycles_by_orders(graph), graph)

    def test_against_even_lots(self):
        for graph in SMALL + LARGE:
            self.assertEqual(cycles(graph), cycles_by_even_lots(graph), graph)

    def test_known_numbers(self):
        for many in range(1, 8):
            known = sum(comb(many, k) * factorial(k - 1) // 2 for k in range(3, many + 1))
            self.assertEqual(len(cycles(whole_graph(many))), known)
        lengths = [len(row) for row in cycles(PETERSEN)]
        self.assertEqual([lengths.count(k) for k in range(3, 11)], [0, 0, 12, 10, 0, 15, 20, 0])
        lengths = [len(row) for row in cycles(halves_graph(4, 4))]
        self.assertEqual([lengths.count(k) for k in range(3, 9)], [0, 36, 0, 96, 0, 72])

    def test_how_each_is_told(self):
        self.assertEqual(cycles(whole_graph(4)), ((0, 1, 2), (0, 1, 2, 3), (0, 1, 3), (0, 1, 3, 2), (0, 2, 1, 3),
                                                  (0, 2, 3), (1, 2, 3)))


class CyclePairsTest(unittest.TestCase):
    def test_against_all_pairs(self):
        for graph in SMALL + [PETERSEN] + all_graphs(5):
            pairs = combinations(sorted(cycles_by_even_lots(graph)), 2)
            self.assertEqual(cycle_pairs(graph), tuple(pair for pair in pairs if not set(pair[0]) & set(pair[1])))

    def test_against_even_lots(self):
        for graph in LARGE:
            self.assertEqual(cycle_pairs(graph), pairs_by_even_lots(graph), graph)

    def test_known_numbers(self):
        graphs = [whole_graph(5), whole_graph(6), whole_graph(7), PETERSEN, halves_graph(4, 4), FULL_HALVES]
        self.assertEqual([len(cycle_pairs(graph)) for graph in graphs], [0, 10, 10 * 7 + 35 * 3, 6, 18, 3 * 15 * 6])
        # Three vertices meet all edges of the one, and no two cycles of it are apart.
        self.assertEqual([cycle_pairs(FULL), len(cycle_pairs(FULL_ROUND)) > 200], [(), True])


class EdgePairsTest(unittest.TestCase):
    def test_against_all_pairs(self):
        for graph in SMALL + LARGE + all_graphs(4):
            expected = sorted((first, second) for first in graph[1] for second in graph[1]
                              if first < second and len(set(first + second)) == 4)
            self.assertEqual(edge_pairs(graph), tuple(expected), graph)

    def test_known_numbers(self):
        self.assertEqual([len(edge_pairs(graph)) for graph in (whole_graph(4), whole_graph(6), halves_graph(3, 3))],
                         [3, 45, 18])


if __name__ == "__main__":
    unittest.main()
