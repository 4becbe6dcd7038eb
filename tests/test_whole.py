"""What the document promises over the whole program, all parts standing beside one another."""

import unittest
from itertools import combinations
from random import Random

from linkless.certificates import certify_level, certify_linking
from linkless.changes import claw_for, cone, contracted, triangle_for, without_edge, without_vertex
from linkless.checker import accepts
from linkless.crossings import crossing_witness, is_crossing_witness, moves_of
from linkless.graphs import cycle_pairs, edge_pairs
from linkless.levels import apexes, is_critical, is_of_level, least_level, most_edges
from linkless.links import is_linking_witness, linking_witness, odd_links, passes_of
from linkless.minors import family, is_model, minor
from linkless.planes import is_flat, outer_rotation, paths_of, rotation_of
from linkless.texts import read_graph, show_graph
from ways import (LARGE, SMALL, apart, canonical, capped, classes, dropped, grown, level_by_rows, minors_by_steps,
                  one_less, path_of, same_but_for_names, shuffled, sided, some_graph, some_of, whole_graph)

LEVELS = (1, 2, 3, 4)
FAMILIES = [(level, other) for level in LEVELS for other in family(level)]


def some_graphs(seed):
    """Graphs of all levels, with up to ten vertices and 24 edges."""
    chance = Random(seed)
    found = SMALL + LARGE + [shuffled(other, chance) for _, other in FAMILIES]
    found += [some_graph(vertices, min(edges, vertices * (vertices - 1) // 2), chance)
              for vertices in range(5, 11) for edges in (6, 9, 12, 15, 18, 21, 24)]
    return found + [sided(vertices, 24, sides, chance) for vertices in range(5, 11) for sides in (1, 2)]


def steps_down(graph):
    """Each graph that comes by deleting or contracting an edge, or deleting a vertex."""
    found = [change(graph, edge) for edge in graph[1] for change in (without_edge, contracted)]
    return found + [without_vertex(graph, vertex) for vertex in range(graph[0] if graph[0] > 1 else 0)]


class TheoremTest(unittest.TestCase):
    def test_of_a_level_exactly_without_a_minor_of_the_family(self):
        known = {}
        wanted = {level: {canonical(other) for other in family(level) if other[0] <= 6} for level in LEVELS}
        for vertices in range(1, 7):
            for graph in classes(vertices):
                minors = minors_by_steps(graph, known)
                for level in LEVELS:
                    self.assertIs(is_of_level(graph, level), not minors & wanted[level], (graph, level))

    def test_just_one_of_a_laying_and_a_minor(self):
        for graph in some_graphs(61):
            for level in LEVELS:
                (word, *rest), paper = certify_level(graph, level)
                found = minor(graph, level)
                self.assertEqual([word == "of level", is_of_level(graph, level)], [found is None] * 2)
                self.assertEqual(rest, [graph, level])
                if found is not None:
                    self.assertIs(is_model(graph, family(level)[found[0]], found[1]), True)
                    self.assertIs(accepts(("above level", graph, level), found), True)
                self.assertIs(accepts((word, graph, level), paper), True)

    def test_what_each_level_asks_for(self):
        for graph in some_graphs(62):
            least = level_by_rows(graph)
            self.assertEqual([paths_of(graph) is not None, outer_rotation(graph) is not None, rotation_of(graph) is not None,
                              passes_of(graph) is not None], [least <= level for level in LEVELS], graph)
            self.assertEqual([moves_of(graph) is None, crossing_witness(graph) is None], [least > 3, least <= 3])
            self.assertEqual([passes_of(graph) is None, linking_witness(graph) is None], [least > 4, least <= 4])
            self.assertEqual(least_level(graph), least)

    def test_minors_are_of_the_level(self):
        for graph in some_graphs(63):
            least = least_level(graph)
            for lesser in steps_down(graph):
                self.assertLessEqual(least_level(lesser), least, (graph, lesser))

    def test_names_do_not_matter(self):
        chance = Random(64)
        for graph in some_graphs(64):
            other = shuffled(graph, chance)
            self.assertEqual(least_level(other), least_level(graph))
            self.assertEqual(len(apexes(other)), len(apexes(graph)))
            self.assertEqual([is_critical(other, level) for level in LEVELS],
                             [is_critical(graph, level) for level in LEVELS])
            self.assertEqual(read_graph(show_graph(other)), other)


class LevelsTogetherTest(unittest.TestCase):
    def test_the_cone_is_one_level_up(self):
        for graph in some_graphs(65):
            if graph[0] < 10 and graph[0] + len(graph[1]) <= 24:
                for level in (1, 2, 3):
                    self.assertIs(is_of_level(cone(graph), level + 1), is_of_level(graph, level), graph)

    def test_exchanges_of_triangles(self):
        chance = Random(66)
        many = 0
        graphs = some_graphs(66) + [other for level, other in FAMILIES if level < 4]
        graphs += [less for other in family(4) for less in one_less(other)]
        graphs += [shuffled(capped(sided(7, 14, 2, chance)), chance) for _ in range(10)]
        for graph in graphs:
            least = least_level(graph)
            for vertex in range(graph[0]):
                if sum(vertex in edge for edge in graph[1]) == 3 and least in (1, 2, 3, 4):
                    self.assertLessEqual(least_level(triangle_for(graph, vertex)), max(3, least), (graph, vertex))
                    many += 1
            for triangle in combinations(range(graph[0]), 3):
                if set(combinations(triangle, 2)) <= set(graph[1]) and graph[0] < 10 and least <= 4:
                    self.assertLessEqual(least_level(claw_for(graph, triangle)), 4, (graph, triangle))
                    many += 1
        self.assertGreater(many, 500)

    def test_a_claw_for_a_triangle_with_vertices_on_both_sides(self):
        both = (5, tuple(edge for edge in whole_graph(5)[1] if edge != (3, 4)))
        self.assertEqual([least_level(both), least_level(claw_for(both, (0, 1, 2)))], [3, 4])
        self.assertIs(same_but_for_names(claw_for(both, (0, 1, 2)), family(3)[1]), True)
        self.assertEqual(least_level(claw_for(whole_graph(4), (0, 1, 2))), 3)

    def test_exchanges_stay_in_the_fourth_family(self):
        for other in family(4):
            for vertex in range(other[0]):
                if sum(vertex in edge for edge in other[1]) == 3:
                    self.assertTrue(any(same_but_for_names(triangle_for(other, vertex), one) for one in family(4)))
            for triangle in combinations(range(other[0]), 3):
                if set(combinations(triangle, 2)) <= set(other[1]) and other[0] < 10:
                    self.assertTrue(any(same_but_for_names(claw_for(other, triangle), one) for one in family(4)))

    def test_an_apex_makes_level_4(self):
        chance = Random(67)
        for graph in some_graphs(67):
            found = apexes(graph)
            if found:
                self.assertLessEqual(least_level(graph), 4, graph)
            self.assertEqual(found, tuple(vertex for vertex in range(graph[0])
                                          if graph[0] == 1 or level_by_rows(dropped(graph, vertex)) <= 3))
        for vertices in range(4, 10):
            flat = sided(vertices, 24 - vertices, 2, chance)
            self.assertIn(vertices, apexes(cone(flat)))
            self.assertLessEqual(least_level(cone(flat)), 4)

    def test_the_critical_ones_are_the_families(self):
        for graph in some_graphs(68):
            for level in LEVELS:
                self.assertIs(is_critical(graph, level), any(same_but_for_names(graph, other) for other in family(level)))
                if is_of_level(graph, level):
                    continue
                # Down as far as it goes above the level.
                small, lesser = None, graph
                while lesser is not None:
                    small = lesser
                    lesser = next((other for other in steps_down(small) if not is_of_level(other, level)), None)
                self.assertIs(is_critical(small, level), True, (graph, small))
                self.assertTrue(any(same_but_for_names(small, other) for other in family(level)))

    def test_none_of_a_family_is_a_minor_of_another_one(self):
        for level, other in FAMILIES:
            self.assertEqual([minor(other, level)[0]], [index for index, one in enumerate(family(level)) if one == other])
            for lesser in steps_down(other):
                self.assertLessEqual(least_level(lesser), level)

    def test_no_more_edges_than_the_greatest_number(self):
        for graph in some_graphs(69):
            for level in LEVELS:
                if len(graph[1]) > most_edges(level, graph[0]):
                    self.assertIs(is_of_level(graph, level), False)
        for level in LEVELS:
            for vertices in range(level + 1, 11):
                graph = path_of(vertices - level + 1)
                while graph[0] < vertices and len(graph[1]) + graph[0] <= 24:
                    graph = cone(graph)
                if graph[0] == vertices:
                    self.assertEqual([len(graph[1]), is_of_level(graph, level)], [most_edges(level, vertices), True])


class WitnessTest(unittest.TestCase):
    def test_a_minor_with_a_witness_gives_one(self):
        chance = Random(70)
        for other in family(4):
            for vertices, edges in ((other[0], 0), (10, 0), (10, 20), (8, 24)):
                graph = grown(other, max(vertices, other[0]), edges, chance)
                claim, paper = certify_linking(graph)
                self.assertEqual(claim, ("linked", graph))
                self.assertIs(accepts(claim, paper), True)
                # An odd number of the pairs are odd with whichever passes.
                for _ in range(3):
                    odd = odd_links(graph, some_of(apart(graph), chance))
                    self.assertEqual(len(set(odd) & set(paper)) % 2, 1)
        for other in family(3):
            graph = grown(other, 9, 18, chance)
            self.assertIs(is_crossing_witness(graph, crossing_witness(graph)), True)

    def test_all_pairs_of_the_families_under_other_names(self):
        chance = Random(71)
        for _ in range(10):
            for other in family(3):
                graph = shuffled(other, chance)
                self.assertIs(is_crossing_witness(graph, edge_pairs(graph)), True)
                self.assertIs(accepts(("crossed", graph), edge_pairs(graph)), True)
            for other in family(4):
                graph = shuffled(other, chance)
                self.assertIs(is_linking_witness(graph, cycle_pairs(graph)), True)
                self.assertIs(accepts(("linked", graph), cycle_pairs(graph)), True)

    def test_flat_and_uncrossed_agree(self):
        for graph in some_graphs(72):
            found = rotation_of(graph)
            self.assertEqual(found is not None, moves_of(graph) is not None)
            if found is not None:
                self.assertIs(is_flat(graph, found), True)


if __name__ == "__main__":
    unittest.main()
