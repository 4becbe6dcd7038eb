import copy
import unittest
from random import Random

from judging import is_accepted
from linkless.certificates import certify_crossing, certify_level, certify_linking
from linkless.checker import accepts
from linkless.errors import InvalidGraph, InvalidNumber
from linkless.minors import family
from ways import (LARGE, NO_GRAPHS, NO_LEVELS, PRISM, SMALL, all_graphs, capped, classes, grown, halves_graph,
                  level_by_rows, one_less, one_more, shuffled, sided, some_graph, whole_graph)

LEVELS = (1, 2, 3, 4)
OTHER = {"of level": "above level", "uncrossed": "crossed", "unlinked": "linked"}
OTHER.update({other: word for word, other in list(OTHER.items())})
CERTIFIERS = [(certify_level, (level,)) for level in LEVELS] + [(certify_crossing, ()), (certify_linking, ())]


class CertificatesTest(unittest.TestCase):
    def check(self, graph):
        """For each level, for crossings and for links just the claim that is so is told, with a paper for it alone."""
        least = level_by_rows(graph)
        words = ["of level" if level >= least else "above level" for level in LEVELS]
        words += ["uncrossed" if least <= 3 else "crossed", "unlinked" if least <= 4 else "linked"]
        for word, (certify, more) in zip(words, CERTIFIERS):
            told = certify(graph, *more)
            self.assertEqual([type(told), len(told)], [tuple, 2])
            claim, paper = told
            self.assertEqual(claim, (word, graph) + more)
            self.assertEqual([type(part) for part in claim], [str, tuple] + [int] * len(more))
            self.assertIs(accepts(claim, paper), True, (claim, paper))
            self.assertIs(accepts((OTHER[word],) + claim[1:], paper), False, (claim, paper))
            # With more edges the judge of the tests takes long.
            if len(graph[1]) <= 15:
                self.assertTrue(is_accepted(claim, paper), (claim, paper))

    def test_graphs_with_few_vertices(self):
        for graph in all_graphs(4) + classes(5) + classes(6):
            self.check(graph)

    def test_the_families_with_an_edge_more_or_less(self):
        chance = Random(41)
        for level in LEVELS:
            for other in family(level):
                self.check(other)
                self.check(shuffled(other, chance))
                for graph in chance.sample(one_less(other), min(3, len(other[1]))) + one_more(other)[:3]:
                    self.check(graph)
                self.check(grown(other, 10, 24, chance))

    def test_drawn_ones(self):
        chance = Random(42)
        for vertices in range(4, 11):
            for sides in (1, 2):
                graph = sided(vertices, 24, sides, chance)
                self.check(graph)
                if vertices < 10 and len(graph[1]) + vertices <= 24:
                    self.check(capped(graph))

    def test_graphs_of_any_kind(self):
        chance = Random(43)
        for graph in SMALL + LARGE + [halves_graph(3, 7), halves_graph(2, 8), whole_graph(7), (10, ())]:
            self.check(graph)
        for vertices in range(6, 11):
            for edges in (8, 12, 15, 20, 24):
                self.check(some_graph(vertices, min(edges, vertices * (vertices - 1) // 2), chance))

    def test_with_the_papers_of_others(self):
        graphs = [(1, ()), PRISM, whole_graph(4), whole_graph(5), whole_graph(6), halves_graph(3, 3)]
        papers = [certify(graph, *more)[1] for graph in graphs for certify, more in CERTIFIERS]
        for graph in graphs:
            for certify, more in CERTIFIERS:
                claim, _ = certify(graph, *more)
                for paper in papers:
                    self.assertIs(accepts((OTHER[claim[0]],) + claim[1:], paper), False)

    def test_what_is_refused(self):
        for at, value in enumerate(NO_GRAPHS):
            for certify, more in CERTIFIERS + [(certify_level, (0,)), (certify_level, (None,)), (certify_level, (value,))]:
                with self.subTest(certify=certify.__name__, at=at), self.assertRaises(InvalidGraph) as caught:
                    certify(value, *more)
                self.assertIs(caught.exception.given, value)
        for at, value in enumerate(NO_LEVELS):
            for graph in (PRISM, whole_graph(6)):
                with self.subTest(at=at), self.assertRaises(InvalidNumber) as caught:
                    certify_level(graph, value)
                self.assertIs(caught.exception.given, value)

    def test_by_name_again_and_without_change(self):
        for graph in SMALL + LARGE:
            before = copy.deepcopy(graph)
            for level in LEVELS:
                self.assertEqual(certify_level(level=level, graph=graph), certify_level(graph, level))
            self.assertEqual(certify_crossing(graph=graph), certify_crossing(graph))
            self.assertEqual(certify_linking(graph=graph), certify_linking(graph))
            self.assertEqual(graph, before)


if __name__ == "__main__":
    unittest.main()
