import copy
import unittest
from itertools import permutations
from random import Random

from linkless.crossings import crossing_witness, is_crossing_witness, moves_of, odd_crossings
from linkless.errors import InvalidGraph, InvalidMoves
from ways import (ANYTHING, FULL, FULL_HALVES, FULL_ROUND, LARGE, NO_GRAPHS, PETERSEN, PRISM, SMALL, STRANGE,
                  all_graphs, all_moves, apart, classes, crossings_by_count, grown, halves_graph,
                  is_crossing_witness_by_count, level_by_orders, renamed, sided, some_of, whole_graph)

K5, K33, K6 = whole_graph(5), halves_graph(3, 3), whole_graph(6)


class OddCrossingsTest(unittest.TestCase):
    def test_without_moves(self):
        for graph in SMALL + LARGE + all_graphs(4) + classes(5):
            self.assertEqual(odd_crossings(graph, ()), crossings_by_count(graph, ()), graph)

    def test_with_moves(self):
        chance = Random(7)
        for graph in SMALL + LARGE + all_graphs(4):
            for _ in range(3):
                moves = some_of(all_moves(graph), chance)
                self.assertEqual(odd_crossings(graph, moves), crossings_by_count(graph, moves), (graph, moves))
            moves = tuple(all_moves(graph))
            self.assertEqual(odd_crossings(graph, moves), crossings_by_count(graph, moves), graph)

    def test_one_move_at_a_time(self):
        for graph in (PRISM, K5, K33):
            before = set(odd_crossings(graph, ()))
            for edge, vertex in all_moves(graph):
                changed = {pair for pair in apart(graph)
                           if edge in pair and vertex in pair[0] + pair[1] and vertex not in edge}
                self.assertEqual(set(odd_crossings(graph, ((edge, vertex),))) ^ before, changed)

    def test_known_numbers(self):
        self.assertEqual([len(odd_crossings(whole_graph(many), ())) for many in (3, 4, 5, 6, 7)], [0, 1, 5, 15, 35])
        self.assertEqual([odd_crossings((1, ()), ()), odd_crossings((2, ((0, 1),)), ())], [(), ()])
        # Both ends moved over change it twice.
        square = (4, ((0, 2), (1, 3)))
        self.assertEqual([odd_crossings(square, moves) for moves in (
            (), (((0, 2), 1),), (((0, 2), 1), ((0, 2), 3)), (((0, 2), 1), ((1, 3), 0)), (((1, 3), 2),))],
            [(((0, 2), (1, 3)),), (), (((0, 2), (1, 3)),), (((0, 2), (1, 3)),), ()])

    def test_an_odd_number_whatever_the_moves(self):
        chance = Random(8)
        for graph in (K5, K33, renamed(K33, (0, 3, 1, 4, 2, 5))):
            for _ in range(50):
                self.assertEqual(len(odd_crossings(graph, some_of(all_moves(graph), chance))) % 2, 1)

    def test_what_is_refused(self):
        good = (((0, 1), 2), ((0, 1), 3), ((0, 2), 1), ((3, 4), 0), ((4, 5), 3))
        self.assertEqual(odd_crossings(PRISM, good), crossings_by_count(PRISM, good))
        edge = (0, 1)
        wrong = STRANGE + [
            (edge, 0), (edge, 1), (edge, 6), (edge, -1), (edge, True), (edge, "2"), (edge, (2,)), (edge, None), (edge,),
            (edge, 2, 3), [edge, 2], ([0, 1], 2), ((0, 1, 2), 3), ((0,), 2), ((0, 4), 2), ((1, 0), 2), ((1, 1), 2),
            ((0, True), 2), ((False, 1), 2), ((0, 6), 2), (("0", "1"), 2), (2, edge), (edge, edge), (0, 2), ("01", 2),
            (edge, 10 ** 99), ((0, 10 ** 99), 2)]
        for at, thing in enumerate(wrong):
            for place in range(len(good) + 1):
                for more in ((), (None,), good):
                    with self.subTest(at=at), self.assertRaises(InvalidMoves) as caught:
                        odd_crossings(PRISM, good[:place] + (thing,) + good[place:] + more)
                    self.assertEqual(caught.exception.index, place)

    def test_moves_that_do_not_ascend(self):
        good = tuple(all_moves(PRISM))
        self.assertEqual(odd_crossings(PRISM, good), crossings_by_count(PRISM, good))
        for place in range(1, len(good)):
            for turned in (good[:place] + good[place - 1:], good[:place - 1] + good[place:place + 1] + good[place - 1:],
                           good[1:place + 1] + good[:1] + good[place + 1:], good[:place] + good[:1] + (None,)):
                with self.assertRaises(InvalidMoves) as caught:
                    odd_crossings(PRISM, turned)
                self.assertEqual(caught.exception.index, place)

    def test_no_tuples(self):
        for at, value in enumerate(ANYTHING + [[((0, 1), 2)], {((0, 1), 2)}]):
            if type(value) is tuple and not value:
                continue
            with self.subTest(at=at), self.assertRaises(InvalidMoves) as caught:
                odd_crossings(PRISM, value)
            self.assertEqual(caught.exception.index, 0 if isinstance(value, tuple) else None)


class MovesAndWitnessTest(unittest.TestCase):
    def check(self, graph, is_flat):
        moves, witness = moves_of(graph), crossing_witness(graph)
        self.assertEqual([moves is not None, witness is not None], [is_flat, not is_flat], graph)
        if moves is not None:
            self.assertEqual(moves, tuple(sorted(set(moves))))
            self.assertLessEqual(set(moves), set(all_moves(graph)))
            self.assertEqual(odd_crossings(graph, moves), ())
            self.assertEqual(crossings_by_count(graph, moves), ())
        if witness is not None:
            self.assertEqual(witness, tuple(sorted(set(witness))))
            self.assertLessEqual(set(witness), set(apart(graph)))
            self.assertIs(is_crossing_witness(graph, witness), True)
            self.assertTrue(is_crossing_witness_by_count(graph, witness))

    def test_all_graphs_with_few_vertices(self):
        for graph in all_graphs(4) + classes(5) + classes(6):
            self.check(graph, level_by_orders(graph) <= 3)

    def test_drawn_and_grown_ones(self):
        chance = Random(9)
        for vertices in range(5, 11):
            for edges in (vertices, 2 * vertices, 24):
                self.check(sided(vertices, edges, 2, chance), True)
        for other in (K5, K33):
            for vertices, edges in ((other[0], 0), (8, 0), (10, 0), (10, 24), (9, 16), (7, 20)):
                self.check(grown(other, vertices, edges, chance), False)

    def test_large_ones(self):
        for graph in (PETERSEN, FULL, FULL_ROUND, FULL_HALVES):
            self.check(graph, False)
        self.check(halves_graph(2, 8), True)
        self.check((10, ()), True)
        self.check((1, ()), True)

    def test_all_pairs_of_k5_and_k33(self):
        for graph in (K5, K33):
            for order in permutations(range(graph[0])):
                named = renamed(graph, order)
                self.assertIs(is_crossing_witness(named, tuple(apart(named))), True, named)


class JudgeTest(unittest.TestCase):
    def test_lots_of_pairs(self):
        chance = Random(10)
        for graph in (K5, K33, K6, PRISM, renamed(K33, (2, 0, 4, 1, 5, 3))):
            pairs = apart(graph)
            rows = [some_of(pairs, chance) for _ in range(100)] + [tuple(pairs), ()]
            rows += [tuple(pairs[:k] + pairs[k + 1:]) for k in range(len(pairs))]
            for value in rows:
                self.assertIs(is_crossing_witness(graph, value), is_crossing_witness_by_count(graph, value), value)

    def test_a_part_of_a_larger_graph(self):
        self.assertIs(is_crossing_witness(K6, tuple(apart(K5))), True)
        self.assertIs(is_crossing_witness(K6, tuple(apart(K33))), True)
        # Two of them added up are odd twice; three are a witness again.
        others = [renamed(K5, order) for order in ((0, 1, 2, 3, 5), (0, 1, 2, 4, 5))]
        lots = [set(apart((6, K5[1])))] + [set(apart((6, other[1]))) for other in others]
        two = tuple(sorted(lots[0] ^ lots[1]))
        self.assertEqual([is_crossing_witness(K6, two), is_crossing_witness(K6, tuple(sorted(set(two) ^ lots[2])))],
                         [False, True])

    def test_spoilt_ones(self):
        for graph in (K5, K33, K6, PETERSEN, FULL_ROUND):
            right = crossing_witness(graph)
            self.assertIs(is_crossing_witness(graph, right), True)
            wrong = [(), list(right), (right,), right[::-1], right + right, right + right[-1:] * 2,
                     right[1:] + right[:1]]
            for k, (first, second) in enumerate(right):
                rest = right[:k], right[k + 1:]
                things = [(second, first), [first, second], (first, list(second)), (first, second, second), (first,),
                          (first[::-1], second), (first, second[::-1]), (first, first), first, (first, second[0]),
                          (first, (second[0], str(second[1]))), (first, second + second[1:])]
                if first[0] == 0:
                    things.append(((False, first[1]), second))
                wrong += [rest[0] + rest[1], right[:k] + right[k:k + 1] + right[k:]]
                wrong += [rest[0] + (thing,) + rest[1] for thing in things + STRANGE]
            wrong += [tuple(sorted(right + (pair,))) for pair in apart(graph) if pair not in right]
            wrong += [tuple(sorted(right + (pair,))) for pair in (
                ((0, 1), (0, 2)), ((0, 1), (11, 12)), ((-1, 0), (1, 2)))]
            wrong += [right + (thing,) for thing in STRANGE] + [(thing,) + right for thing in STRANGE]
            for value in wrong:
                self.assertIs(is_crossing_witness(graph, value), False, value)

    def test_things_of_any_kind(self):
        for at, thing in enumerate(ANYTHING + STRANGE):
            with self.subTest(at=at):
                self.assertIs(is_crossing_witness(K5, thing), False)

    def test_no_graphs(self):
        for at, value in enumerate(NO_GRAPHS):
            for asked, more in ((odd_crossings, ((),)), (odd_crossings, (None,)), (moves_of, ()),
                                (crossing_witness, ()), (is_crossing_witness, ((),)),
                                (is_crossing_witness, (None,))):
                with self.subTest(asked=asked.__name__, at=at), self.assertRaises(InvalidGraph) as caught:
                    asked(value, *more)
                self.assertIs(caught.exception.given, value)

    def test_by_name_again_and_without_change(self):
        for graph in SMALL + LARGE:
            before = copy.deepcopy(graph)
            self.assertEqual(moves_of(graph=graph), moves_of(graph))
            self.assertEqual(crossing_witness(graph=graph), crossing_witness(graph))
            self.assertEqual(odd_crossings(moves=(), graph=graph), odd_crossings(graph, ()))
            self.assertEqual(is_crossing_witness(value=(), graph=graph), False)
            self.assertEqual(graph, before)


if __name__ == "__main__":
    unittest.main()
