import copy
import unittest
from itertools import combinations, permutations
from random import Random

from linkless.changes import cone
from linkless.errors import InvalidGraph, InvalidNumber
from linkless.levels import apexes, is_critical, is_of_level, least_level, most_edges
from linkless.minors import family
from ways import (FULL, FULL_HALVES, FULL_ROUND, LARGE, NO_GRAPHS, NO_LEVELS, PETERSEN, PRISM, SMALL, all_graphs,
                  can_all_hold, capped, classes, crossing_rows, dropped, grown, halves_graph, level_by_orders,
                  level_by_rows, one_less, one_more, path_of, same_but_for_names, shuffled, sided, some_graph,
                  whole_graph)

LEVELS = (1, 2, 3, 4)
# For each level the numbers for one vertex, two, and so on, as the document tells them.
MOST = {1: [0, 1, 2, 3, 4, 5, 6, 7, 8, 9], 2: [0, 1, 3, 5, 7, 9, 11, 13, 15, 17],
        3: [0, 1, 3, 6, 9, 12, 15, 18, 21, 24], 4: [0, 1, 3, 6, 10, 14, 18, 22, 26, 30]}
FAMILIES = [(level, other) for level in LEVELS for other in family(level)]


def bounded(graphs):
    return [graph for graph in graphs if graph[0] <= 10 and len(graph[1]) <= 24]


def widest(level, vertices):
    """A path, and for each further level a vertex joined to all."""
    graph = path_of(max(1, vertices - level + 1))
    while graph[0] < vertices:
        graph = capped(graph)
    return graph


class LevelTest(unittest.TestCase):
    def check(self, graph, expected=None):
        """The level is told rightly, and is the expected one."""
        least = level_by_rows(graph)
        self.assertIn(expected, (None, least), graph)
        self.assertEqual(least_level(graph), least, graph)
        self.assertIs(type(least_level(graph)), int)
        for level in LEVELS:
            self.assertIs(is_of_level(graph, level), level >= least, (graph, level))

    def test_all_graphs_with_few_vertices(self):
        for graph in all_graphs(4) + [graph for many in (1, 2, 3, 5, 6) for graph in classes(many)]:
            self.check(graph, level_by_orders(graph))

    def test_paths_and_fans(self):
        chance = Random(21)
        for gaps in ((), (0,), (4,), (2, 6), (1, 3, 5, 7)):
            for vertices in (2, 5, 9):
                graph = (vertices, tuple(edge for edge in path_of(vertices)[1] if edge[0] not in gaps))
                self.check(shuffled(graph, chance), 1)
                # The cone of an edge or more has a triangle, that of K1 and an edge is no path either.
                self.check(shuffled(capped(graph), chance), 2 if graph[1] or vertices > 2 else 1)
        self.check((10, ()), 1)
        self.check((10, tuple(sorted(path_of(10)[1] + ((0, 9),)))), 2)

    def test_flat_ones_and_cones(self):
        chance = Random(22)
        for vertices in range(4, 11):
            for edges in (vertices, 2 * vertices - 3, 24):
                for sides in (1, 2):
                    graph = sided(vertices, edges, sides, chance)
                    self.assertLessEqual(level_by_rows(graph), sides + 1)
                    self.check(graph)
                    for more in bounded([capped(graph)]):
                        self.check(shuffled(more, chance))

    def test_the_families_with_an_edge_more_or_less(self):
        chance = Random(23)
        for level, other in FAMILIES:
            self.check(other, level + 1)
            self.check(shuffled(other, chance), level + 1)
            for less in one_less(other):
                self.check(less)
                self.assertLessEqual(least_level(less), level)
            for more in one_more(other):
                self.check(more)
                self.assertGreater(least_level(more), level)
            for vertices, edges in ((10, 24), (10, 0), (8, 18)):
                self.check(grown(other, max(vertices, other[0]), edges, chance))

    def test_graphs_of_any_kind(self):
        chance = Random(24)
        for vertices in range(5, 11):
            for edges in (vertices, vertices + 4, 2 * vertices, 2 * vertices + 3, 24):
                self.check(some_graph(vertices, min(24, edges), chance))
        for graph in SMALL + LARGE:
            self.check(graph)
        for graph, least in ((FULL, 4), (FULL_HALVES, 5), (FULL_ROUND, 5), (PETERSEN, 5), (halves_graph(3, 7), 4),
                             (halves_graph(2, 8), 3), (halves_graph(1, 9), 2), (whole_graph(5), 4), (PRISM, 3)):
            self.check(graph, least)

    def test_the_cone_is_one_level_up(self):
        chance = Random(25)
        graphs = SMALL + all_graphs(4) + classes(5) + [other for _, other in FAMILIES]
        graphs += [some_graph(vertices, chance.randrange(25 - vertices), chance) for vertices in range(2, 10)] * 3
        for graph in graphs:
            if graph[0] < 10 and len(graph[1]) + graph[0] <= 24:
                for level in (1, 2, 3):
                    self.assertIs(is_of_level(cone(graph), level + 1), is_of_level(graph, level), (graph, level))

    def test_what_is_refused(self):
        for at, value in enumerate(NO_GRAPHS):
            for asked, more in ((is_of_level, (3,)), (is_of_level, (0,)), (is_of_level, (value,)), (least_level, ()),
                                (apexes, ()), (is_critical, (3,)), (is_critical, (None,))):
                with self.subTest(asked=asked.__name__, at=at), self.assertRaises(InvalidGraph) as caught:
                    asked(value, *more)
                self.assertIs(caught.exception.given, value)
        for at, value in enumerate(NO_LEVELS):
            for asked in (is_of_level, is_critical):
                with self.subTest(asked=asked.__name__, at=at), self.assertRaises(InvalidNumber) as caught:
                    asked(PRISM, value)
                self.assertIs(caught.exception.given, value)

    def test_by_name_again_and_without_change(self):
        for graph in SMALL + LARGE:
            before = copy.deepcopy(graph)
            self.assertEqual(least_level(graph=graph), least_level(graph))
            self.assertEqual(apexes(graph=graph), apexes(graph))
            for level in LEVELS:
                self.assertEqual(is_of_level(level=level, graph=graph), is_of_level(graph, level))
                self.assertEqual(is_critical(level=level, graph=graph), is_critical(graph, level))
            self.assertEqual(graph, before)


class MostEdgesTest(unittest.TestCase):
    def test_numbers(self):
        for level in LEVELS:
            self.assertEqual([most_edges(level, vertices) for vertices in range(1, 11)], MOST[level])
            self.assertEqual([most_edges(vertices=7, level=level)], MOST[level][6:7])
            for vertices in range(1, level + 1):
                self.assertEqual(most_edges(level, vertices), vertices * (vertices - 1) // 2)
            for vertices in range(level, 11):
                known = [vertices - 1, 2 * vertices - 3, 3 * vertices - 6, 4 * vertices - 10]
                self.assertEqual(most_edges(level, vertices), known[level - 1])

    def test_met_and_not_passed(self):
        for level in LEVELS:
            for vertices in range(1, 11):
                graph = widest(level, vertices)
                self.assertEqual(len(graph[1]), MOST[level][vertices - 1])
                for met in bounded([graph]):
                    self.assertIs(is_of_level(met, level), True, met)
                for more in bounded(one_more(graph)):
                    self.assertIs(is_of_level(more, level), False, more)

    def test_all_graphs_with_few_vertices(self):
        for vertices in (1, 2, 3, 4, 5, 6):
            for graph in classes(vertices):
                for level in range(least_level(graph), 5):
                    self.assertLessEqual(len(graph[1]), most_edges(level, vertices), graph)

    def test_graphs_with_an_edge_more(self):
        chance = Random(26)
        for level in LEVELS:
            # Fewer vertices have no edge more to give.
            for vertices in range(level + 2, 11):
                for _ in range(4):
                    for graph in bounded([some_graph(vertices, most_edges(level, vertices) + 1, chance)]):
                        self.assertIs(is_of_level(graph, level), False, graph)

    def test_what_is_refused(self):
        no_numbers = [value for value in NO_LEVELS if type(value) is not int] + [0, 11, 12, -1, 10 ** 99, "10"]
        for at, value in enumerate(no_numbers):
            with self.subTest(at=at), self.assertRaises(InvalidNumber) as caught:
                most_edges(3, value)
            self.assertIs(caught.exception.given, value)
        # The level is looked at first.
        for at, value in enumerate(NO_LEVELS):
            for vertices in (5, 11, None, True):
                with self.subTest(at=at), self.assertRaises(InvalidNumber) as caught:
                    most_edges(vertices=vertices, level=value)
                self.assertIs(caught.exception.given, value)


class ApexesTest(unittest.TestCase):
    def check(self, graph):
        own = [vertex for vertex in range(graph[0])
               if graph[0] == 1 or can_all_hold(crossing_rows(dropped(graph, vertex)))]
        self.assertEqual(apexes(graph), tuple(own), graph)
        if own:
            self.assertIs(is_of_level(graph, 4), True, graph)

    def test_of_one_vertex_and_of_two(self):
        self.assertEqual([apexes((1, ())), apexes((2, ())), apexes((2, ((0, 1),)))], [(0,), (0, 1), (0, 1)])

    def test_flat_ones_have_all(self):
        chance = Random(27)
        for vertices in range(1, 11):
            graph = sided(vertices, 24, 2, chance)
            self.assertEqual(apexes(graph), tuple(range(vertices)))

    def test_of_the_families_and_less(self):
        for level, other in FAMILIES:
            self.check(other)
            self.assertEqual(apexes(other), () if level == 4 else tuple(range(other[0])))
            for graph in bounded(one_less(other) + one_more(other)):
                self.check(graph)

    def test_some_and_not_all(self):
        # K5 and a vertex beside it, K6 less an edge, two times K5 with one vertex in common.
        self.assertEqual(apexes((6, whole_graph(5)[1])), (0, 1, 2, 3, 4))
        self.assertEqual(apexes((6, whole_graph(6)[1][1:])), (2, 3, 4, 5))
        twice = whole_graph(5)[1] + tuple(combinations(range(4, 9), 2))
        self.assertEqual(apexes((9, tuple(sorted(twice)))), (4,))
        apart = whole_graph(5)[1] + tuple(combinations(range(5, 10), 2))
        self.assertEqual([apexes((10, apart)), least_level((10, apart))], [(), 4])

    def test_graphs_of_any_kind(self):
        chance = Random(28)
        for graph in SMALL + LARGE + [some_graph(vertices, edges, chance) for vertices in range(5, 11)
                                      for edges in (10, 14, 18, 24)]:
            self.check(graph)
            if graph[0] < 10 and len(graph[1]) + graph[0] <= 24:
                self.assertEqual(graph[0] in apexes(cone(graph)), level_by_rows(graph) <= 3)


class IsCriticalTest(unittest.TestCase):
    def test_the_families_under_other_names(self):
        chance = Random(29)
        for level, other in FAMILIES:
            for graph in [other] + [shuffled(other, chance) for _ in range(3)]:
                for asked in LEVELS:
                    expected = any(same_but_for_names(graph, one) for one in family(asked))
                    self.assertIs(is_critical(graph, asked), expected, (graph, asked))
                self.assertIs(is_critical(graph, level), True)

    def test_all_names_of_small_ones(self):
        for level, other in FAMILIES:
            if other[0] <= 4:
                for order in permutations(range(other[0])):
                    named = (other[0], tuple(sorted(tuple(sorted((order[a], order[b]))) for a, b in other[1])))
                    self.assertIs(is_critical(named, level), True)

    def test_with_an_edge_or_a_vertex_more_or_an_edge_less(self):
        for level, other in FAMILIES:
            graphs = one_more(other) + one_less(other) + bounded([(other[0] + 1, other[1])])
            graphs += bounded([(other[0] + 1, tuple(sorted(other[1] + ((0, other[0]),))))])
            for graph in graphs:
                for asked in LEVELS:
                    expected = any(same_but_for_names(graph, one) for one in family(asked))
                    self.assertIs(is_critical(graph, asked), expected, (graph, asked))
                self.assertIs(is_critical(graph, level), False)

    def test_all_graphs_with_few_vertices(self):
        for vertices in (1, 2, 3, 4, 5, 6):
            for graph in classes(vertices):
                for level in LEVELS:
                    expected = any(same_but_for_names(graph, other) for other in family(level))
                    self.assertIs(is_critical(graph, level), expected, (graph, level))

    def test_contracting_and_vertices_without_neighbours_count(self):
        # Deleting any one edge of these leaves a path; contracting one does not.
        self.assertEqual([is_critical((many, tuple(sorted(path_of(many)[1] + ((0, many - 1),)))), 1)
                          for many in (3, 4, 5, 10)], [True, False, False, False])
        self.assertEqual([is_critical((many, whole_graph(3)[1]), 1) for many in (3, 4, 10)], [True, False, False])

    def test_large_ones(self):
        for graph in LARGE:
            for level in LEVELS:
                self.assertIs(is_critical(graph, level), graph == PETERSEN and level == 4)


if __name__ == "__main__":
    unittest.main()
