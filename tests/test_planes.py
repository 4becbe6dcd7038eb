import copy
import unittest
from itertools import chain, permutations
from random import Random

from linkless.errors import InvalidGraph, InvalidRotation
from linkless.planes import is_flat, is_laying, is_outer, outer_rotation, paths_of, rotation_of, walks_of
from ways import (ANYTHING, FULL, LARGE, NO_GRAPHS, PETERSEN, PRISM, SMALL, STRANGE, all_graphs, all_rotations,
                  are_paths, capped, classes, grown, halves_graph, is_flat_by_walks, level_by_orders, renamed,
                  shuffled, sided, walks_by_steps, whole_graph)

ASKED = (paths_of, rotation_of, outer_rotation)
JUDGES = (is_laying, is_flat, is_outer)
FLAT = ((1, 2, 3), (2, 0, 4), (0, 1, 5), (0, 5, 4), (1, 3, 5), (2, 4, 3))
# Three triangles at the vertex 0.
FANS = (7, ((0, 1), (0, 2), (0, 3), (0, 4), (0, 5), (0, 6), (1, 2), (3, 4), (5, 6)))
SIDE_BY_SIDE = ((1, 2, 3, 4, 5, 6), (0, 2), (0, 1), (0, 4), (0, 3), (0, 6), (0, 5))
ONE_IN_ANOTHER = ((1, 3, 4, 2, 5, 6),) + SIDE_BY_SIDE[1:]
# Two triangles, an edge, and a vertex without edges.
SEVERAL = (9, ((0, 2), (0, 4), (1, 3), (1, 5), (2, 4), (3, 5), (6, 8)))
SEVERAL_FLAT = ((2, 4), (3, 5), (0, 4), (1, 5), (0, 2), (1, 3), (8,), (), (6,))


def spoilt(right):
    """What comes of a rotation by one change, and is none."""
    found = [list(right), right[:-1], right + ((),), right + right[:1], right[1:] + right[:1], (right,), ()]
    for vertex, row in enumerate(right):
        rows = [row + (more,) for more in [vertex, len(right)] + STRANGE] + [list(row), 0, None]
        if row:
            rows += [row[:-1], row + row[:1], row[:1] + row[:-1] + row[:1]]
        for k, other in enumerate(row):
            things = STRANGE + [[other], (other,), str(other), vertex, len(right)] + [bool(other)] * (other < 2)
            rows += [row[:k] + (thing,) + row[k + 1:] for thing in things]
        found += [right[:vertex] + (other,) + right[vertex + 1:] for other in rows]
    return found


class PathsTest(unittest.TestCase):
    def test_told_just_where_there_are_some(self):
        for graph in SMALL + LARGE + all_graphs(4) + classes(5) + classes(6):
            found = paths_of(graph)
            self.assertEqual(found is not None, are_paths(graph), graph)
            if found is not None:
                self.assertIs(is_laying(graph, found), True, graph)
                self.assertEqual(sorted(chain(*found)), list(range(graph[0])))
                self.assertEqual({frozenset(step) for path in found for step in zip(path, path[1:])},
                                 set(map(frozenset, graph[1])))

    def test_large_ones(self):
        chance = Random(4)
        for gaps in ((), (0,), (8,), (2, 3), (1, 3, 5, 7), range(9)):
            graph = (10, tuple((k, k + 1) for k in range(9) if k not in gaps))
            for _ in range(5):
                named = shuffled(graph, chance)
                self.assertIs(is_laying(named, paths_of(named)), True, named)
                self.assertEqual(len(paths_of(named)), 1 + len(gaps))
        self.assertIsNone(paths_of((10, ((0, 1), (0, 9)) + tuple((k, k + 1) for k in range(1, 9)))))
        self.assertIsNone(paths_of((5, ((0, 1), (2, 3), (2, 4), (3, 4)))))

    def test_judged(self):
        graph = (6, ((0, 2), (1, 2), (4, 5)))
        parts = (((0, 2, 1), (1, 2, 0)), ((4, 5), (5, 4)), ((3,),))
        right = {order for one in parts[0] for two in parts[1] for order in permutations((one, two, (3,)))}
        self.assertEqual(len(right), 24)
        for value in right:
            self.assertIs(is_laying(graph, value), True)
        wrong = [(), ((0, 2, 1), (4, 5)), ((0, 2, 1), (3,), (3,), (4, 5)), ((0, 2, 1, 3), (4, 5)),
                 ((0, 2, 1), (3, 4, 5)),
                 ((0, 2, 1), (4,), (5,), (3,)), ((0, 1, 2), (3,), (4, 5)), ((0, 2), (1,), (3,), (4, 5)),
                 ((0, 2), (2, 1), (3,), (4, 5)), ((0, 2, 1), (3,), (4, 5), ()), ((), (0, 2, 1), (3,), (4, 5)),
                 ((0, 2, 1, 2), (3,), (4, 5)), ((0, 2, 1, 0), (3,), (4, 5)), ((0, 2, 1), (3,), (4, 5, 4)),
                 ((0, 2, 1), (3,), (4, 5), (6,)), ((0, 2, 1), (4, 5), (-3,)), ((0, 2, 1), (3, 3), (4, 5)),
                 [(0, 2, 1), (3,), (4, 5)], ([0, 2, 1], (3,), (4, 5)), ((0, 2, 1), 3, (4, 5)), (0, 2, 1, 3, 4, 5),
                 ((0, 2, True), (3,), (4, 5)), ((False, 2, 1), (3,), (4, 5)), ((0, 2, 1), ("3",), (4, 5)),
                 ((0, 2, 1), (3,), ((4, 5),)), (((0, 2, 1), (3,), (4, 5)),), ((0, 2, 1), (3,), (4, 5), (10 ** 99,))]
        for at, value in enumerate(wrong):
            with self.subTest(at=at):
                self.assertIs(is_laying(graph, value), False)

    def test_round_is_no_path(self):
        graph = (3, ((0, 1), (0, 2), (1, 2)))
        for path in [(0, 1, 2), (0, 1, 2, 0), (0,)]:
            self.assertIs(is_laying(graph, (path,)), False)
        self.assertIs(is_laying(graph, ((0, 1), (1, 2), (2, 0))), False)
        self.assertIs(is_laying((1, ()), ((0,),)), True)
        self.assertIs(is_laying((1, ()), ()), False)


class RotationTest(unittest.TestCase):
    def check(self, graph, flat, outer):
        found = rotation_of(graph)
        self.assertEqual(found is not None, flat, graph)
        if found is not None:
            self.assertIs(is_flat(graph, found), True, graph)
            self.assertTrue(is_flat_by_walks(graph, found), graph)
        found = outer_rotation(graph)
        self.assertEqual(found is not None, outer, graph)
        if found is not None:
            self.assertIs(is_outer(graph, found), True, graph)
            self.assertIs(is_flat(graph, found), True, graph)
            self.assertTrue(is_flat_by_walks(graph, found), graph)

    def test_all_graphs_with_few_vertices(self):
        for graph in all_graphs(4) + classes(5) + classes(6):
            level = level_by_orders(graph)
            self.check(graph, level <= 3, level <= 2)

    def test_all_names_of_five_vertices(self):
        for graph in all_graphs(5):
            found = rotation_of(graph)
            self.assertEqual(found is None, len(graph[1]) == 10)
            self.assertTrue(found is None or is_flat_by_walks(graph, found), graph)

    def test_drawn_ones(self):
        chance = Random(5)
        for vertices in range(3, 11):
            for edges in (vertices, 2 * vertices - 4, 24):
                for _ in range(4):
                    self.check(sided(vertices, edges, 1, chance), True, True)
                    graph = sided(vertices, edges, 2, chance)
                    self.assertIs(is_flat(graph, rotation_of(graph)), True, graph)

    def test_grown_ones(self):
        chance = Random(6)
        for other in (whole_graph(5), halves_graph(3, 3)):
            for vertices, edges in ((other[0], 0), (8, 0), (10, 0), (10, 24), (9, 16), (10, 14)):
                for _ in range(3):
                    self.check(grown(other, vertices, edges, chance), False, False)
        for other in (whole_graph(4), halves_graph(2, 3)):
            for vertices in range(other[0], 11):
                for _ in range(3):
                    self.check(grown(other, vertices, 0, chance), True, False)

    def test_one_edge_less(self):
        for other in (whole_graph(5), halves_graph(3, 3)):
            for edge in other[1]:
                self.check((other[0], tuple(pair for pair in other[1] if pair != edge)), True, False)
        for other in (whole_graph(4), halves_graph(2, 3)):
            for edge in other[1]:
                self.check((other[0], tuple(pair for pair in other[1] if pair != edge)), True, True)

    def test_blocks_and_components(self):
        bow = (5, ((0, 1), (0, 2), (0, 3), (0, 4), (1, 2), (3, 4)))
        two = (10, whole_graph(4)[1] + ((4, 5), (4, 6), (5, 6), (6, 7)))
        hung = (8, tuple(sorted(whole_graph(4)[1] + ((3, 4), (3, 5), (3, 6), (3, 7), (4, 5), (4, 6), (5, 6)))))
        for graph, flat, outer in ((bow, True, True), (FANS, True, True), (SEVERAL, True, True), (two, True, False),
                                   (hung, True, False), ((10, whole_graph(5)[1]), False, False), ((1, ()), True, True),
                                   ((10, ()), True, True), ((10, ((0, 9),)), True, True)):
            self.check(graph, flat, outer)
            order = list(reversed(range(graph[0])))
            self.check(renamed(graph, order), flat, outer)
        self.assertEqual([rotation_of((1, ())), outer_rotation((1, ())), rotation_of((2, ((0, 1),)))],
                         [((),), ((),), ((1,), (0,))])

    def test_large_ones(self):
        self.check(PETERSEN, False, False)
        self.check(FULL, False, False)
        self.check(halves_graph(2, 8), True, False)
        # Up to ten vertices, all joined to one more, asks for more than a graph may have.
        self.check((10, tuple(sorted([(k, k + 1) for k in range(9)] + [(0, k) for k in range(2, 10)]))), True, True)
        self.check((10, tuple(sorted([(k, k + 1) for k in range(9)] + [(0, 9), (1, 9), (0, 2), (2, 9)]))), True, False)
        self.check((10, tuple(sorted([(k, k + 1) for k in range(9)] + [(0, 9), (1, 9), (2, 9), (2, 8)]))), True, True)
        cube = (8, tuple((a, a + step) for a in range(8) for step in (1, 2, 4) if not a & step))
        self.check(cube, True, False)
        self.check(capped(cube), False, False)

    def test_all_rotations(self):
        # Of those of K4 two are flat, turned over; of those of K5 and of K3,3 none.
        for graph, many in ((whole_graph(4), 2), (halves_graph(2, 3), 2), (whole_graph(5), 0), (halves_graph(3, 3), 0),
                            (PRISM, 2), (FANS, 40), (SEVERAL, 1), ((3, ()), 1), (halves_graph(1, 4), 6)):
            flat = 0
            for value in all_rotations(graph):
                expected = is_flat_by_walks(graph, value)
                self.assertIs(is_flat(graph, value), expected, value)
                flat += expected
            self.assertEqual(flat, many, graph)


class JudgesTest(unittest.TestCase):
    def test_flat_and_not_outer(self):
        self.assertEqual([is_flat(FANS, SIDE_BY_SIDE), is_outer(FANS, SIDE_BY_SIDE)], [True, True])
        self.assertEqual([is_flat(FANS, ONE_IN_ANOTHER), is_outer(FANS, ONE_IN_ANOTHER)], [True, False])
        across = ((1, 3, 2, 4, 5, 6),) + SIDE_BY_SIDE[1:]
        self.assertEqual([is_flat(FANS, across), is_outer(FANS, across)], [False, False])
        more = (10, FANS[1] + ((7, 8), (7, 9), (8, 9)))
        rows = ((8, 9), (7, 9), (7, 8))
        self.assertEqual([is_outer(more, SIDE_BY_SIDE + rows), is_outer(more, ONE_IN_ANOTHER + rows)], [True, False])
        self.assertIs(is_flat(more, ONE_IN_ANOTHER + rows), True)

    def test_one_walk_and_not_flat(self):
        # A walk that meets all vertices is not enough: K4 can be walked so.
        k4 = whole_graph(4)
        found = [value for value in all_rotations(k4) if len(walks_by_steps(value)) == 2]
        self.assertTrue(any(set(walk) == {0, 1, 2, 3} for value in found for walk in walks_by_steps(value)))
        for value in found:
            self.assertEqual([is_flat(k4, value), is_outer(k4, value)], [False, False])

    def test_rows_are_meant_round(self):
        for turns in permutations(range(3)):
            value = tuple(row[turns[k % 3]:] + row[:turns[k % 3]] for k, row in enumerate(FLAT))
            self.assertIs(is_flat(PRISM, value), True)
        self.assertIs(is_flat(PRISM, tuple(row[::-1] for row in FLAT)), True)

    def test_several_components(self):
        self.assertEqual([is_flat(SEVERAL, SEVERAL_FLAT), is_outer(SEVERAL, SEVERAL_FLAT)], [True, True])
        self.assertEqual([is_flat((3, ()), ((), (), ())), is_outer((3, ()), ((), (), ()))], [True, True])
        two = (8, whole_graph(4)[1] + tuple((a + 4, b + 4) for a, b in whole_graph(4)[1]))
        one = ((1, 2, 3), (0, 3, 2), (0, 1, 3), (0, 2, 1))
        crossed = ((1, 2, 3), (0, 2, 3)) + one[2:]
        for low, high, expected in ((one, one, True), (one, crossed, False), (crossed, one, False),
                                    (crossed, crossed, False)):
            value = low + tuple(tuple(other + 4 for other in row) for row in high)
            self.assertEqual([is_flat(two, value), is_outer(two, value)], [expected, False])

    def test_spoilt_ones(self):
        for judge, graph, right in ((is_flat, PRISM, FLAT), (is_outer, FANS, SIDE_BY_SIDE),
                                    (is_flat, SEVERAL, SEVERAL_FLAT), (is_outer, SEVERAL, SEVERAL_FLAT)):
            self.assertIs(judge(graph, right), True)
            for value in spoilt(right):
                self.assertIs(judge(graph, value), False, value)

    def test_two_neighbours_exchanged(self):
        for vertex, row in enumerate(FLAT):
            for turned in ((row[1], row[0], row[2]), (row[0], row[2], row[1]), (row[2], row[1], row[0])):
                value = FLAT[:vertex] + (turned,) + FLAT[vertex + 1:]
                self.assertIs(is_flat(PRISM, value), False)
                self.assertEqual(walks_of(PRISM, value), walks_by_steps(value))

    def test_things_of_any_kind(self):
        for judge in JUDGES:
            for at, thing in enumerate(ANYTHING + STRANGE):
                with self.subTest(judge=judge.__name__, at=at):
                    self.assertIs(judge(PRISM, thing), False)

    def test_no_graphs(self):
        for judge in JUDGES:
            for at, value in enumerate(NO_GRAPHS):
                for given in (FLAT, None):
                    with self.subTest(judge=judge.__name__, at=at), self.assertRaises(InvalidGraph) as caught:
                        judge(value, given)
                    self.assertIs(caught.exception.given, value)

    def test_by_name_and_without_change(self):
        before = copy.deepcopy([PRISM, FLAT, FANS, SIDE_BY_SIDE])
        self.assertIs(is_flat(value=FLAT, graph=PRISM), True)
        self.assertIs(is_outer(value=SIDE_BY_SIDE, graph=FANS), True)
        self.assertIs(is_laying(value=((0, 1),), graph=(2, ((0, 1),))), True)
        self.assertEqual(walks_of(rotation=FLAT, graph=PRISM), walks_of(PRISM, FLAT))
        self.assertEqual([PRISM, FLAT, FANS, SIDE_BY_SIDE], before)
        for asked in ASKED:
            for graph in SMALL + LARGE:
                kept = copy.deepcopy(graph)
                self.assertEqual(asked(graph=graph), asked(graph))
                self.assertEqual(graph, kept)


class WalksTest(unittest.TestCase):
    def test_all_rotations(self):
        for graph in (whole_graph(4), PRISM, halves_graph(3, 3), FANS, SEVERAL, (1, ()), (4, ()), (2, ((0, 1),)),
                      halves_graph(1, 4), (5, ((0, 1), (1, 2), (2, 3), (3, 4)))):
            for value in list(all_rotations(graph))[:200]:
                found = walks_of(graph, value)
                self.assertEqual(found, walks_by_steps(value))
                self.assertEqual(sum(map(len, found)), 2 * len(graph[1]))
                self.assertEqual(found, tuple(sorted(found)))

    def test_by_hand(self):
        self.assertEqual(walks_of((1, ()), ((),)), ())
        self.assertEqual(walks_of((2, ((0, 1),)), ((1,), (0,))), ((0, 1),))
        self.assertEqual(walks_of((3, ((0, 1), (0, 2), (1, 2))), ((1, 2), (0, 2), (0, 1))), ((0, 1, 2), (0, 2, 1)))
        self.assertEqual(walks_of((4, ((0, 3), (1, 3), (2, 3))), ((3,), (3,), (3,), (0, 1, 2))), ((0, 3, 1, 3, 2, 3),))
        self.assertEqual(walks_of((4, ((0, 3), (1, 3), (2, 3))), ((3,), (3,), (3,), (0, 2, 1))), ((0, 3, 2, 3, 1, 3),))
        self.assertEqual(walks_of(SEVERAL, SEVERAL_FLAT),
                         ((0, 2, 4), (0, 4, 2), (1, 3, 5), (1, 5, 3), (6, 8)))

    def test_least_from_a_vertex_met_thrice(self):
        self.assertEqual(walks_of(FANS, SIDE_BY_SIDE),
                         ((0, 1, 2, 0, 3, 4, 0, 5, 6), (0, 2, 1), (0, 4, 3), (0, 6, 5)))

    def test_what_is_refused(self):
        for graph, right in ((PRISM, FLAT), (FANS, SIDE_BY_SIDE), (SEVERAL, SEVERAL_FLAT)):
            for value in spoilt(right) + ANYTHING:
                with self.assertRaises(InvalidRotation) as caught:
                    walks_of(graph, value)
                self.assertIs(caught.exception.given, value)
        for at, value in enumerate(NO_GRAPHS):
            for rotation in (FLAT, None):
                with self.subTest(at=at), self.assertRaises(InvalidGraph) as caught:
                    walks_of(value, rotation)
                self.assertIs(caught.exception.given, value)
        for asked in ASKED:
            for at, value in enumerate(NO_GRAPHS):
                with self.subTest(asked=asked.__name__, at=at), self.assertRaises(InvalidGraph) as caught:
                    asked(value)
                self.assertIs(caught.exception.given, value)


if __name__ == "__main__":
    unittest.main()
