import copy
import unittest
from itertools import combinations, permutations, product
from random import Random

from linkless.errors import InvalidGraph, InvalidNumber
from linkless.minors import family, is_model, minor
from linkless.texts import read_graph, show_graph
from ways import (ANYTHING, FULL, FULL_HALVES, FULL_ROUND, NO_GRAPHS, NO_LEVELS, PETERSEN, PRISM, SMALL, STRANGE,
                  canonical, capped, classes, grown, halves_graph, is_model_by_sets, level_by_orders, minors_by_steps,
                  same_but_for_names, shuffled, sided, whole_graph)

LEVELS = (1, 2, 3, 4)
TEXTS = {
    1: ["3: 0-1 0-2 1-2", "4: 0-3 1-3 2-3"],
    2: ["4: 0-1 0-2 0-3 1-2 1-3 2-3", "5: 0-2 0-3 0-4 1-2 1-3 1-4"],
    3: ["5: 0-1 0-2 0-3 0-4 1-2 1-3 1-4 2-3 2-4 3-4", "6: 0-3 0-4 0-5 1-3 1-4 1-5 2-3 2-4 2-5"],
    4: ["6: 0-1 0-2 0-3 0-4 0-5 1-2 1-3 1-4 1-5 2-3 2-4 2-5 3-4 3-5 4-5",
        "7: 0-3 0-4 0-5 0-6 1-3 1-4 1-5 1-6 2-3 2-4 2-5 2-6 3-6 4-6 5-6",
        "7: 0-1 0-2 0-3 0-4 0-5 1-2 1-3 1-4 1-5 2-3 2-4 2-5 3-6 4-6 5-6",
        "8: 0-4 0-5 0-6 0-7 1-4 1-5 1-6 1-7 2-4 2-5 2-6 2-7 3-4 3-5 3-6",
        "8: 0-2 0-4 0-5 0-7 1-2 1-4 1-5 1-7 2-3 2-4 2-5 3-6 3-7 4-6 5-6",
        "9: 0-5 0-7 0-8 1-2 1-4 1-5 1-7 2-3 2-5 2-8 3-6 3-7 4-6 4-8 5-6",
        "10: 0-5 0-7 0-8 1-4 1-7 1-9 2-3 2-8 2-9 3-6 3-7 4-6 4-8 5-6 5-9"]}
K4 = whole_graph(4)


def closed_by_triangles_and_claws(graph):
    """All that comes of a graph by claws for triangles and triangles for vertices, but for names."""
    found, waiting = [], [graph]
    while waiting:
        vertices, edges = here = waiting.pop()
        if any(same_but_for_names(here, other) for other in found):
            continue
        found.append(here)
        for lot in combinations(range(vertices), 3):
            sides = set(combinations(lot, 2))
            if sides <= set(edges):
                claw = {(corner, vertices) for corner in lot}
                waiting.append((vertices + 1, tuple(sorted(set(edges) - sides | claw))))
        for gone in range(vertices):
            at = [sum(edge) - gone for edge in edges if gone in edge]
            if len(at) == 3:
                kept = {edge for edge in edges if gone not in edge} | set(combinations(sorted(at), 2))
                names = [vertex - (vertex > gone) for vertex in range(vertices)]
                waiting.append((vertices - 1, tuple(sorted((names[a], names[b]) for a, b in kept))))
    return found


class FamilyTest(unittest.TestCase):
    def test_texts_and_order(self):
        for level, texts in TEXTS.items():
            self.assertEqual(family(level), tuple(read_graph(text) for text in texts))
            self.assertEqual([show_graph(other) for other in family(level)], texts)
            self.assertEqual(family(level=level), family(level))

    def test_by_their_names(self):
        self.assertEqual(family(1), (whole_graph(3), (4, ((0, 3), (1, 3), (2, 3)))))
        self.assertEqual(family(2), (K4, halves_graph(2, 3)))
        self.assertEqual(family(3), (whole_graph(5), halves_graph(3, 3)))
        self.assertEqual(family(4)[0], whole_graph(6))
        self.assertEqual(family(4)[1], (7, tuple(sorted(halves_graph(3, 3)[1] + tuple((k, 6) for k in range(6))))))
        self.assertEqual(family(4)[3], (8, tuple(edge for edge in halves_graph(4, 4)[1] if edge != (3, 7))))
        self.assertEqual(family(4)[6], PETERSEN)

    def test_the_fourth_come_of_k6_and_are_all(self):
        found = closed_by_triangles_and_claws(whole_graph(6))
        self.assertEqual(len(found), 7)
        for other in family(4):
            self.assertEqual([same_but_for_names(other, graph) for graph in found].count(True), 1)
            self.assertEqual(len(other[1]), 15)

    def test_none_is_a_minor_of_another_one(self):
        for level in (1, 2, 3):
            known = {}
            for first, second in permutations(family(level), 2):
                self.assertNotIn(canonical(first), minors_by_steps(second, known))

    def test_no_levels(self):
        for at, value in enumerate(NO_LEVELS):
            with self.subTest(at=at), self.assertRaises(InvalidNumber) as caught:
                family(value)
            self.assertIs(caught.exception.given, value)


class IsModelTest(unittest.TestCase):
    def test_all_lots_of_small_graphs(self):
        graphs = [graph for many in (1, 2, 3, 4) for graph in classes(many)]
        known = {}
        for graph in graphs:
            for other in graphs:
                taken = []
                for owners in product(range(other[0] + 1), repeat=graph[0]):
                    lots = tuple(tuple(k for k in range(graph[0]) if owners[k] == lot) for lot in range(other[0]))
                    expected = all(lots) and is_model_by_sets(graph, other, lots)
                    self.assertIs(is_model(graph, other, lots), expected, (graph, other, lots))
                    taken.append(expected)
                self.assertEqual(any(taken), canonical(other) in minors_by_steps(graph, known), (graph, other))

    def test_all_pairs_of_lots(self):
        for graph in classes(4):
            lots = [lot for many in range(5) for lot in combinations(range(4), many)]
            for other in classes(2):
                for value in product(lots, repeat=2):
                    expected = all(value) and is_model_by_sets(graph, other, value)
                    self.assertIs(is_model(graph, other, value), expected, (graph, other, value))

    def test_ordinary_ones(self):
        self.assertIs(is_model(PRISM, K4, ((0,), (1,), (2,), (3, 4, 5))), True)
        self.assertIs(is_model(PRISM, K4, ((3, 4, 5), (2,), (0,), (1,))), True)
        self.assertIs(is_model(value=((0, 3), (1,), (2,)), graph=PRISM, other=whole_graph(3)), True)
        self.assertIs(is_model(PRISM, (2, ()), ((1, 4), (2,))), True)
        self.assertIs(is_model(PRISM, (1, ()), ((0, 1, 2, 3, 4, 5),)), True)
        for graph in SMALL + [PETERSEN, FULL]:
            self.assertIs(is_model(graph, graph, tuple((vertex,) for vertex in range(graph[0]))), True)

    def test_spoilt_ones(self):
        right = ((0,), (1,), (2,), (3, 4, 5))
        wrong = [
            ((0,), (1,), (2,), (5, 4, 3)), ((0,), (1,), (2,), (3, 5, 4)), ((0,), (1,), (2,), (3, 4, 4, 5)),
            ((0,), (1,), (2,), ()), ((), (1,), (2,), (3, 4, 5)), ((0,), (1,), (1,), (3, 4, 5)),
            ((0,), (1, 2), (2,), (3, 4, 5)), ((0,), (1, 5), (2,), (3, 4)), ((0,), (1,), (2,), (3, 4)),
            right[:3], right + ((),), right[:3] + ((3, 4), (5,)), right + (right[3],), (),
            ((0,), (1,), (2,), (3, 4, 6)), ((0,), (1,), (2,), (3, 4, 5, 6)), ((-1,), (1,), (2,), (3, 4, 5)),
            ((0,), (1,), (2,), (3, 4, 10 ** 99)), list(right), ([0],) + right[1:], right[:3] + ([3, 4, 5],),
            (0, 1, 2, (3, 4, 5)), ((0,), (True,), (2,), (3, 4, 5)), ((False,), (1,), (2,), (3, 4, 5)),
            ((0,), ("1",), (2,), (3, 4, 5)), (((0,),), (1,), (2,), (3, 4, 5)), right[0], (right,), {0: right}]
        for at, value in enumerate(wrong):
            with self.subTest(at=at):
                self.assertIs(is_model(PRISM, K4, value), False)

    def test_one_edge_of_each(self):
        # Each edge of the other one asks for an edge across, and each edge of the graph may be the only one there.
        value = ((0,), (1, 4), (2, 5), (3,))
        other = (4, ((0, 1), (0, 2), (0, 3), (1, 2), (1, 3), (2, 3)))
        self.assertIs(is_model(PRISM, other, value), True)
        for edge in PRISM[1]:
            less = (6, tuple(pair for pair in PRISM[1] if pair != edge))
            self.assertIs(is_model(less, other, value), edge in ((1, 2), (4, 5)), edge)
        square = (4, ((0, 1), (0, 3), (1, 2), (2, 3)))
        single = ((0,), (1,), (2,), (3,))
        self.assertIs(is_model(square, square, single), True)
        self.assertIs(is_model(square, (4, ((0, 1), (0, 3), (1, 2), (1, 3), (2, 3))), single), False)
        for turned in permutations(single):
            self.assertIs(is_model(square, square, turned), (turned[0][0] - turned[2][0]) % 2 == 0)

    def test_things_of_any_kind(self):
        right = ((0,), (1,), (2,), (3, 4, 5))
        for at, thing in enumerate(ANYTHING + STRANGE):
            with self.subTest(at=at):
                self.assertIs(is_model(PRISM, K4, thing), False)
                self.assertIs(is_model(PRISM, K4, right[:3] + (thing,)), False)
                self.assertIs(is_model(PRISM, K4, right[:1] + (thing,) + right[2:]), False)
                self.assertIs(is_model(PRISM, K4, right[:3] + ((3, thing, 5),)), False)

    def test_no_graphs(self):
        for at, value in enumerate(NO_GRAPHS):
            with self.subTest(at=at):
                for given in ((value, K4), (PRISM, value), (value, None)):
                    with self.assertRaises(InvalidGraph) as caught:
                        is_model(*given, ((0,), (1,), (2,), (3, 4, 5)))
                    self.assertIs(caught.exception.given, value)


class MinorTest(unittest.TestCase):
    def check(self, graph, level, is_of_level):
        found = minor(graph, level)
        if is_of_level:
            self.assertIsNone(found, (graph, level))
            return
        self.assertIs(type(found), tuple, (graph, level))
        index, model = found
        self.assertIs(type(index), int)
        other = family(level)[index]
        self.assertIs(is_model(graph, other, model), True, (graph, level))
        self.assertTrue(is_model_by_sets(graph, other, model), (graph, level))

    def test_all_graphs_with_few_vertices(self):
        for many in (1, 2, 3, 4, 5, 6):
            for graph in classes(many):
                least = level_by_orders(graph)
                for level in LEVELS:
                    self.check(graph, level, level >= least)

    def test_the_families_and_less(self):
        for level in LEVELS:
            for at, other in enumerate(family(level)):
                known = {}
                self.assertEqual(minor(other, level)[0], at)
                for more in range(level + 1, 5):
                    self.check(other, more, True)
                for less in range(1, level):
                    self.check(other, less, False)
                for edge in other[1]:
                    self.check((other[0], tuple(pair for pair in other[1] if pair != edge)), level, True)
                if level < 4:
                    self.assertIn(canonical(other), minors_by_steps(other, known))

    def test_grown_ones_are_above(self):
        chance = Random(1)
        for level in LEVELS:
            for other in family(level):
                for vertices, edges in ((other[0], 24), (10, 24), (10, 20), (9, 18), (10, 0)):
                    self.check(grown(other, vertices, edges, chance), level, False)

    def test_drawn_ones_are_of_the_level(self):
        chance = Random(2)
        for vertices in range(2, 11):
            for edges in (24, vertices, 2 * vertices - 3):
                for sides in (1, 2):
                    graph = sided(vertices, edges, sides, chance)
                    self.check(graph, sides + 1, True)
                    self.check(graph, 4, True)
                    more = capped(graph)
                    if more[0] <= 10 and len(more[1]) <= 24:
                        self.check(shuffled(more, chance), sides + 2, True)

    def test_paths(self):
        chance = Random(3)
        rows = [(10, tuple((k, k + 1) for k in range(9) if k not in gaps)) for gaps in ((), (4,), (0, 1, 7), range(9))]
        for graph in rows:
            for level in LEVELS:
                self.check(shuffled(graph, chance), level, True)
            self.check(shuffled((10, tuple(sorted(graph[1] + ((0, 9),)))), chance), 1, graph is not rows[0])
        self.check((10, tuple((k, k + 1) for k in range(8)) + ((8, 9),)), 1, True)

    def test_large_ones(self):
        for graph, least in ((FULL, 4), (FULL_HALVES, 5), (PETERSEN, 5), (halves_graph(3, 7), 4),
                             (halves_graph(2, 8), 3)):
            for level in LEVELS:
                self.check(graph, level, level >= least)
        self.check(FULL_ROUND, 3, False)

    def test_again_by_name_and_without_change(self):
        for graph in SMALL + [PETERSEN, FULL]:
            before = copy.deepcopy(graph)
            for level in LEVELS:
                self.assertEqual(minor(level=level, graph=graph), minor(graph, level))
            self.assertEqual(graph, before)

    def test_what_is_refused(self):
        for at, value in enumerate(NO_GRAPHS):
            for level in (3, 5, None):
                with self.subTest(at=at), self.assertRaises(InvalidGraph) as caught:
                    minor(value, level)
                self.assertIs(caught.exception.given, value)
        for at, value in enumerate(NO_LEVELS):
            with self.subTest(at=at), self.assertRaises(InvalidNumber) as caught:
                minor(PRISM, value)
            self.assertIs(caught.exception.given, value)


if __name__ == "__main__":
    unittest.main()
