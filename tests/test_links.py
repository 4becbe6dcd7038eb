import copy
import unittest
from random import Random

from linkless.errors import InvalidGraph, InvalidPasses
from linkless.graphs import cycle_pairs
from linkless.links import is_linking_witness, linking_witness, odd_links, passes_of
from linkless.minors import family
from ways import (ANYTHING, FULL, FULL_HALVES, LARGE, NO_GRAPHS, PETERSEN, PRISM, SMALL, STRANGE, apart,
                  capped, classes, grown, halves_graph, is_linking_witness_by_count, is_over, level_by_orders,
                  links_by_count, pairs_by_even_lots, shuffled, sided, sides_of, some_of, whole_graph)

K6 = whole_graph(6)
FAMILY = family(4)


class OddLinksTest(unittest.TestCase):
    def test_over_by_measure(self):
        # The way of the tests measures the lines; what is told of them is that of four ascending ends.
        for edge, other in apart(whole_graph(8)):
            first, second = edge[0] < other[0] < edge[1] < other[1], other[0] < edge[0] < other[1] < edge[1]
            self.assertEqual([is_over(other, edge), is_over(edge, other)], [first, second])

    def test_without_passes(self):
        for graph in SMALL + LARGE + classes(6) + list(FAMILY):
            self.assertEqual(odd_links(graph, ()), links_by_count(graph, ()), graph)

    def test_with_passes(self):
        chance = Random(11)
        for graph in SMALL + LARGE + list(FAMILY) + [shuffled(other, chance) for other in FAMILY]:
            for _ in range(3):
                passes = some_of(apart(graph), chance)
                self.assertEqual(odd_links(graph, passes), links_by_count(graph, passes), (graph, passes))
            passes = tuple(apart(graph))
            self.assertEqual(odd_links(graph, passes), links_by_count(graph, passes), graph)

    def test_one_pass_at_a_time(self):
        for graph in (PRISM, K6, FAMILY[3]):
            before = set(odd_links(graph, ()))
            for edge, other in apart(graph):
                changed = {pair for pair in pairs_by_even_lots(graph)
                           if any(edge in sides_of(one) and other in sides_of(two) for one, two in (pair, pair[::-1]))}
                self.assertEqual(set(odd_links(graph, ((edge, other),))) ^ before, changed)

    def test_an_odd_number_whatever_the_passes(self):
        chance = Random(12)
        for other in FAMILY:
            for _ in range(20):
                graph = shuffled(other, chance)
                self.assertEqual(len(odd_links(graph, some_of(apart(graph), chance))) % 2, 1)

    def test_nothing_to_tell(self):
        for graph in ((1, ()), (2, ((0, 1),)), whole_graph(5), FULL):
            self.assertEqual([odd_links(graph, tuple(apart(graph))), passes_of(graph), linking_witness(graph)],
                             [(), (), None])

    def test_what_is_refused(self):
        good = (((0, 1), (2, 5)), ((0, 1), (3, 4)), ((0, 2), (1, 4)), ((0, 3), (1, 2)), ((1, 4), (3, 5)))
        self.assertEqual(odd_links(PRISM, good), links_by_count(PRISM, good))
        edge = (0, 1)
        wrong = STRANGE + [
            (edge, (0, 2)), (edge, (1, 2)), (edge, edge), ((3, 4), edge), (edge, (5, 3)), ((1, 0), (3, 4)),
            (edge, (2, 3)), (edge, (3, 6)), (edge, (-1, 3)), (edge, [3, 4]), ([0, 1], (3, 4)), [edge, (3, 4)], (edge,),
            (edge, (3, 4), (3, 5)), (edge, (3, 4, 5)), (edge, (3,)), (edge, 3), (edge, None), (edge, "34"),
            (edge, ("3", "4")), ((0, True), (3, 4)), ((False, 1), (3, 4)), ((False, True), (3, 4)),
            (edge, (3, 10 ** 99)), (edge, 3, 4), (0, 1), ("01", "34"), ((0, 4), (1, 2))]
        for at, thing in enumerate(wrong):
            for place in range(len(good) + 1):
                for more in ((), (None,), good):
                    with self.subTest(at=at), self.assertRaises(InvalidPasses) as caught:
                        odd_links(PRISM, good[:place] + (thing,) + good[place:] + more)
                    self.assertEqual(caught.exception.index, place)

    def test_passes_that_do_not_ascend(self):
        good = tuple(apart(PRISM))
        self.assertEqual(odd_links(PRISM, good), links_by_count(PRISM, good))
        for place in range(1, len(good)):
            for turned in (good[:place] + good[place - 1:], good[:place - 1] + good[place:place + 1] + good[place - 1:],
                           good[1:place + 1] + good[:1] + good[place + 1:], good[:place] + good[:1] + (None,)):
                with self.assertRaises(InvalidPasses) as caught:
                    odd_links(PRISM, turned)
                self.assertEqual(caught.exception.index, place)

    def test_no_tuples(self):
        for at, value in enumerate(ANYTHING + [[((0, 1), (3, 4))], {((0, 1), (3, 4))}]):
            if type(value) is tuple and not value:
                continue
            with self.subTest(at=at), self.assertRaises(InvalidPasses) as caught:
                odd_links(PRISM, value)
            self.assertEqual(caught.exception.index, 0 if isinstance(value, tuple) else None)


class PassesAndWitnessTest(unittest.TestCase):
    def check(self, graph, is_linkless):
        passes, witness = passes_of(graph), linking_witness(graph)
        self.assertEqual([passes is not None, witness is not None], [is_linkless, not is_linkless], graph)
        if passes is not None:
            self.assertEqual(passes, tuple(sorted(set(passes))))
            self.assertLessEqual(set(passes), set(apart(graph)))
            self.assertEqual(odd_links(graph, passes), ())
            # With more edges the way of the tests takes long.
            if len(graph[1]) <= 18:
                self.assertEqual(links_by_count(graph, passes), ())
        if witness is not None:
            self.assertEqual(witness, tuple(sorted(set(witness))))
            self.assertIs(is_linking_witness(graph, witness), True)
            self.assertTrue(is_linking_witness_by_count(graph, witness))

    def test_all_graphs_with_few_vertices(self):
        for many in (1, 2, 3, 4, 5, 6):
            for graph in classes(many):
                self.check(graph, level_by_orders(graph) <= 4)

    def test_grown_ones(self):
        chance = Random(13)
        for other in FAMILY:
            for vertices, edges in ((other[0], 0), (other[0], 18), (10, 0), (10, 20), (9, 21)):
                self.check(grown(other, vertices, edges, chance), False)

    def test_drawn_ones(self):
        chance = Random(14)
        for vertices in range(5, 11):
            for edges in (vertices, 2 * vertices, 24):
                self.check(sided(vertices, edges, 2, chance), True)
                more = capped(sided(vertices - 1, min(edges, 25 - vertices), 2, chance))
                self.assertTrue(more[0] <= 10 and len(more[1]) <= 24)
                self.check(shuffled(more, chance), True)

    def test_one_edge_less(self):
        for other in FAMILY:
            for edge in other[1]:
                self.check((other[0], tuple(pair for pair in other[1] if pair != edge)), True)

    def test_large_ones(self):
        for graph, is_linkless in ((PETERSEN, False), (FULL, True), (FULL_HALVES, False), (halves_graph(3, 7), True),
                                   (capped((9, halves_graph(2, 7)[1])), True), ((10, ()), True)):
            self.check(graph, is_linkless)

    def test_all_pairs_of_the_family(self):
        chance = Random(15)
        for other in FAMILY:
            self.assertIs(is_linking_witness(other, cycle_pairs(other)), True)
            for _ in range(40):
                graph = shuffled(other, chance)
                self.assertIs(is_linking_witness(graph, pairs_by_even_lots(graph)), True, graph)


class JudgeTest(unittest.TestCase):
    def test_lots_of_pairs(self):
        chance = Random(16)
        for graph in FAMILY + (PRISM, whole_graph(7), (6, K6[1][1:])):
            pairs = list(pairs_by_even_lots(graph))
            rows = [some_of(pairs, chance) for _ in range(4)] + [tuple(pairs), ()] + [
                tuple(pairs[:k] + pairs[k + 1:]) for k in range(min(12, len(pairs)))]
            for value in rows:
                self.assertIs(is_linking_witness(graph, value), is_linking_witness_by_count(graph, value), value)

    def test_all_lots_of_k6(self):
        pairs = pairs_by_even_lots(K6)
        for lot in range(1 << 10):
            value = tuple(pair for k, pair in enumerate(pairs) if lot >> k & 1)
            self.assertIs(is_linking_witness(K6, value), lot == 1023)

    def test_a_part_of_a_larger_graph(self):
        k7 = whole_graph(7)
        narrow = [pair for pair in pairs_by_even_lots(k7) if len(pair[0] + pair[1]) == 6]
        lots = [{pair for pair in narrow if out not in pair[0] + pair[1]} for out in range(7)]
        for lot in lots:
            self.assertIs(is_linking_witness(k7, tuple(sorted(lot))), True)
        self.assertEqual([is_linking_witness(k7, tuple(sorted(lots[0] | lots[1]))),
                          is_linking_witness(k7, tuple(sorted(lots[0] | lots[1] | lots[2])))], [False, True])

    def test_spoilt_ones(self):
        for graph in (K6, FAMILY[3], PETERSEN, whole_graph(7)):
            right = linking_witness(graph)
            self.assertIs(is_linking_witness(graph, right), True)
            wrong = [(), list(right), (right,), right[::-1], right + right, right + right[-1:] * 2,
                     right[1:] + right[:1]]
            for k, (first, second) in enumerate(right):
                rest = right[:k], right[k + 1:]
                things = [(second, first), [first, second], (first, list(second)), (first, second, second), (first,),
                          (first[1:] + first[:1], second), (first, second[-1:] + second[:-1]), (first, first),
                          (first[:1] + first[:0:-1], second), (first, second[:1] + second[:0:-1]), (first, second[:-1]),
                          (first + first[-1:], second), (first + first, second), (first, second[:-1] + second[:1]),
                          (first, second[:-1] + (str(second[-1]),)), (first, second[:-1] + (10,)),
                          ((first[0] - 10,) + first[1:], second), (first, second[0]), first, (first, ())]
                if first[0] == 0:
                    things.append(((False,) + first[1:], second))
                if 1 in first:
                    things.append((tuple(True if end == 1 else end for end in first), second))
                wrong += [rest[0] + rest[1], right[:k] + right[k:k + 1] + right[k:]]
                wrong += [rest[0] + (thing,) + rest[1] for thing in things + STRANGE]
            wrong += [tuple(sorted(right + (pair,))) for pair in pairs_by_even_lots(graph) if pair not in right]
            wrong += [tuple(sorted(right + (pair,))) for pair in (
                ((0, 1, 2), (2, 3, 4)), ((0, 1, 2), (0, 1, 2)), ((0, 1, 2), (11, 12, 13)), ((-1, 0, 1), (2, 3, 4)))]
            wrong += [right + (thing,) for thing in STRANGE] + [(thing,) + right for thing in STRANGE]
            for value in wrong:
                self.assertIs(is_linking_witness(graph, value), False, value)

    def test_cycles_that_are_none(self):
        # K6 less an edge is linkless: neither its own pairs nor those of K6 are a witness.
        for edge in K6[1]:
            less = (6, tuple(pair for pair in K6[1] if pair != edge))
            self.assertIs(is_linking_witness(less, pairs_by_even_lots(K6)), False)
            self.assertIs(is_linking_witness(less, pairs_by_even_lots(less)), False)

    def test_things_of_any_kind(self):
        for at, thing in enumerate(ANYTHING + STRANGE):
            with self.subTest(at=at):
                self.assertIs(is_linking_witness(K6, thing), False)

    def test_no_graphs(self):
        for at, value in enumerate(NO_GRAPHS):
            for asked, more in ((odd_links, ((),)), (odd_links, (None,)), (passes_of, ()), (linking_witness, ()),
                                (is_linking_witness, ((),)), (is_linking_witness, (None,))):
                with self.subTest(asked=asked.__name__, at=at), self.assertRaises(InvalidGraph) as caught:
                    asked(value, *more)
                self.assertIs(caught.exception.given, value)

    def test_by_name_again_and_without_change(self):
        for graph in SMALL + LARGE:
            before = copy.deepcopy(graph)
            self.assertEqual(passes_of(graph=graph), passes_of(graph))
            self.assertEqual(linking_witness(graph=graph), linking_witness(graph))
            self.assertEqual(odd_links(passes=(), graph=graph), odd_links(graph, ()))
            self.assertEqual(is_linking_witness(value=(), graph=graph), False)
            self.assertEqual(graph, before)


if __name__ == "__main__":
    unittest.main()
