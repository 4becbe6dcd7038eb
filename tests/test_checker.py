import copy
import unittest
from itertools import combinations, permutations, product
from random import Random

from judging import is_accepted
from linkless.checker import accepts
from linkless.crossings import crossing_witness, moves_of, odd_crossings
from linkless.graphs import cycle_pairs, edge_pairs
from linkless.links import linking_witness, odd_links, passes_of
from linkless.minors import family, minor
from linkless.planes import outer_rotation, paths_of, rotation_of
from ways import (ANYTHING, FULL, NO_GRAPHS, NO_LEVELS, PETERSEN, PRISM, STRANGE, Odd, all_moves, all_rotations, apart,
                  capped, dropped, halves_graph, nested, one_less, path_of, some_of, whole_graph)

K4, K5, K33, K6 = whole_graph(4), whole_graph(5), halves_graph(3, 3), whole_graph(6)
ONE, EDGE = (1, ()), (2, ((0, 1),))
FAN = capped(path_of(4))
TWO_TRIANGLES = (6, ((0, 1), (0, 2), (1, 2), (3, 4), (3, 5), (4, 5)))
GRAPHS = [ONE, (3, ()), EDGE, path_of(5), FAN, TWO_TRIANGLES, K4, PRISM, K5, K33]
WORDS = ["of level", "above level", "minor", "uncrossed", "crossed", "unlinked", "linked", "odd crossings", "odd links",
         "apex", "critical"]
LEVELS = (1, 2, 3, 4)


def right_papers(graph):
    """Claims of each kind that are so, and a paper for each."""
    found = [(("of level", graph, level), paper) for level, paper in enumerate(
        (paths_of(graph), outer_rotation(graph), rotation_of(graph), passes_of(graph)), start=1)]
    found += [(("above level", graph, level), minor(graph, level)) for level in LEVELS]
    found += [(("uncrossed", graph), moves_of(graph)), (("crossed", graph), crossing_witness(graph)),
              (("unlinked", graph), passes_of(graph)), (("linked", graph), linking_witness(graph)),
              (("minor", graph, graph), tuple((vertex,) for vertex in range(graph[0])))]
    for some in ((), tuple(all_moves(graph)[::2])):
        found.append((("odd crossings", graph, some, odd_crossings(graph, some)), ()))
    for some in ((), edge_pairs(graph)[::2]):
        found.append((("odd links", graph, some, odd_links(graph, some)), ()))
    for vertex in range(graph[0]):
        found.append((("apex", graph, vertex), rotation_of(dropped(graph, vertex)) if graph[0] > 1 else ()))
    found += [(("critical", graph, level), ()) for level in LEVELS if graph in family(level)]
    return [(claim, paper) for claim, paper in found if paper is not None]


def spoilt(value):
    """What comes of a value by one thing otherwise."""
    found = [None, (value,), [value], Odd()]
    if type(value) is int:
        found += [value + 1, value - 1, -value - 1, str(value), 10 ** 99] + [bool(value)] * (value in (0, 1))
    if type(value) is str:
        found += [value.upper(), value + " ", " " + value, value[1:], value.replace(" ", "-"), "", value.encode("ascii")]
        found += [word for word in WORDS if word != value]
    if type(value) is tuple:
        found += [list(value), value[::-1], value + (None,), value + (Odd(),), value + ((),), value + (0,), (None,) + value]
        for k, part in enumerate(value):
            found += [value[:k] + value[k + 1:], value[:k] + (part, part) + value[k + 1:]]
            found += [value[:k] + (value[k + 1], part) + value[k + 2:]] if k + 1 < len(value) else []
            found += [value[:k] + (thing,) + value[k + 1:] for thing in spoilt(part)]
    return found


class CheckerTest(unittest.TestCase):
    def check(self, claim, paper):
        """The checker tells what the tests' own judge tells."""
        found = accepts(claim, paper)
        self.assertIs(found, is_accepted(claim, paper), (claim, paper))
        return found


class RightPapersTest(CheckerTest):
    def test_all_kinds(self):
        kinds = set()
        for graph in GRAPHS + [K6, PETERSEN, whole_graph(7), FULL] + list(family(4)):
            for claim, paper in right_papers(graph):
                self.assertIs(accepts(claim, paper), True, (claim, paper))
                self.assertIs(accepts(paper=paper, claim=claim), True)
                if len(graph[1]) <= 15:
                    self.assertTrue(is_accepted(claim, paper), (claim, paper))
                kinds.add(claim[0])
        self.assertEqual(kinds, set(WORDS))

    def test_others_than_the_package_tells(self):
        flat = ((1, 2, 3), (2, 0, 4), (0, 1, 5), (0, 5, 4), (1, 3, 5), (2, 4, 3))
        for claim, paper in [
                (("of level", path_of(3), 1), ((0, 1, 2),)), (("of level", path_of(3), 1), ((2, 1, 0),)),
                (("of level", PRISM, 3), flat), (("of level", PRISM, 4), ()), (("unlinked", PRISM), ()),
                (("of level", PRISM, 4), (((0, 1), (3, 4)), ((0, 1), (3, 5)))), (("crossed", K5), edge_pairs(K5)),
                (("crossed", K6), tuple(apart(K5))), (("crossed", K6), tuple(apart(K33))),
                (("above level", PRISM, 2), (0, ((0,), (1,), (2,), (3, 4, 5)))),
                (("above level", K33, 3), (1, ((3,), (4,), (5,), (0,), (1,), (2,)))),
                (("minor", PRISM, whole_graph(3)), ((0, 3), (1,), (2,))), (("minor", PRISM, ONE), ((4,),)),
                (("minor", PRISM, (3, ())), ((0,), (1,), (2,))), (("uncrossed", K4), (((0, 2), 1),)),
                (("uncrossed", K4), (((0, 2), 3),)), (("apex", PRISM, 0), ((1, 3), (0, 4), (3, 4), (0, 2, 4), (1, 3, 2))),
                (("apex", ONE, 0), ()), (("apex", (2, ()), 1), ((),)), (("apex", EDGE, 0), ((),)),
                (("apex", K5, 2), ((1, 2, 3), (0, 3, 2), (0, 1, 3), (0, 2, 1))),
                (("odd links", K6, (), (((0, 2, 4), (1, 3, 5)),)), ()), (("critical", K6, 4), ()),
                (("odd crossings", K4, (((0, 2), 1),), ()), ()), (("odd crossings", K4, (), (((0, 2), (1, 3)),)), ())]:
            self.assertIs(self.check(claim, paper), True, claim)

    def test_what_is_not_so(self):
        for claim, paper in [
                (("of level", K4, 3), ((1, 2, 3), (0, 2, 3), (0, 1, 3), (0, 2, 1))), (("of level", K4, 2), rotation_of(K4)),
                (("of level", FAN, 1), rotation_of(FAN)), (("of level", K6, 4), ()), (("unlinked", K6), ()),
                (("of level", PRISM, 4), (((0, 1), (3, 4)),)), (("uncrossed", K4), ()), (("crossed", K4), edge_pairs(K4)),
                (("linked", PRISM), cycle_pairs(PRISM)), (("linked", K6), ()), (("linked", K6), cycle_pairs(K6)[1:]),
                (("above level", PRISM, 3), (0, ((0,), (1,), (2,), (3, 4, 5)))), (("critical", K6, 3), ()),
                (("above level", K33, 3), (0, ((3,), (4,), (5,), (0,), (1,), (2,)))), (("critical", PRISM, 2), ()),
                (("above level", K33, 3), (2, ((3,), (4,), (5,), (0,), (1,), (2,)))), (("critical", ONE, 1), ()),
                (("above level", K33, 3), (-1, ((3,), (4,), (5,), (0,), (1,), (2,)))),
                (("minor", PRISM, K5), ((0,), (1,), (2,), (3,), (4, 5))), (("apex", ONE, 0), ((),)),
                (("apex", ONE, 0), []), (("apex", K6, 0), rotation_of(PRISM)), (("apex", EDGE, 0), ()),
                (("apex", PRISM, 6), rotation_of(dropped(PRISM, 5))), (("apex", PRISM, -1), rotation_of(dropped(PRISM, 5))),
                (("odd links", K6, (), ()), ()), (("odd crossings", K4, (), ()), ()), (("critical", K5, 4), ()),
                (("odd links", K6, (), cycle_pairs(K6)), ()), (("odd crossings", K4, (), edge_pairs(K4)), ())]:
            self.assertIs(self.check(claim, paper), False, claim)

    def test_the_paper_of_another_claim(self):
        rights = [right for graph in GRAPHS for right in right_papers(graph)]
        papers = list({paper: True for _, paper in rights})
        many = 0
        for claim, _ in rights:
            # With four levels and with linked cycles the way of the tests takes longer.
            for paper in papers if claim[0] not in ("linked", "critical") else papers[::7]:
                many += self.check(claim, paper)
        self.assertGreater(many, len(rights))
        for graph in (K6, PETERSEN):
            for claim, _ in right_papers(graph):
                for paper in papers[::40]:
                    self.check(claim, paper)

    def test_two_claims_that_exclude_one_another(self):
        for graph in GRAPHS + [K6]:
            papers = [paper for _, paper in right_papers(graph)]
            twos = [(("of level", graph, level), ("above level", graph, level)) for level in LEVELS]
            twos += [(("uncrossed", graph), ("crossed", graph)), (("unlinked", graph), ("linked", graph))]
            for two in twos:
                accepted = [any(accepts(claim, paper) for paper in papers) for claim in two]
                self.assertEqual(sorted(accepted), [False, True], two)


class SpoiltTest(CheckerTest):
    def test_one_thing_otherwise(self):
        many = 0
        for graph in (ONE, EDGE, path_of(3), FAN, TWO_TRIANGLES, K4, PRISM, K5, K33):
            for claim, paper in right_papers(graph):
                for other in spoilt(claim):
                    many += self.check(other, paper)
                for other in spoilt(paper):
                    many += self.check(claim, other)
        # Some of these are right again, but few.
        self.assertGreater(many, 100)

    def test_one_thing_otherwise_with_links(self):
        for claim, paper in right_papers(K6):
            if claim[0] in ("linked", "odd links", "critical") or claim[-1] == 4:
                for other in spoilt(claim)[::5]:
                    self.check(other, paper)
                for other in spoilt(paper):
                    self.check(claim, other)

    def test_empty_papers_and_lists(self):
        for graph in GRAPHS + [K6]:
            for claim, paper in right_papers(graph):
                for other in ((), ((),), (None,), ([],), ((), ())):
                    self.check(claim, other)
                for other in ([], list(paper), [list(paper)], {}, "", 0, False, None, set(), frozenset(), range(0), b""):
                    self.assertIs(accepts(claim, other), False, (claim, other))
                self.assertIs(accepts(claim, (list(paper),)), False)

    def test_more_or_fewer_elements_and_other_words(self):
        for graph in GRAPHS + [K6]:
            for claim, paper in right_papers(graph):
                for wrong in (claim[:-1], claim + claim[-1:], claim + ((),), claim + (None,), claim + (1,), claim[1:],
                              claim[:1], (), list(claim), [claim], (claim,), claim[:1] + claim, (claim[0].title(),) +
                              claim[1:], (claim[0] + " ",) + claim[1:], (claim[0].encode(),) + claim[1:]):
                    self.assertIs(accepts(wrong, paper), False, wrong)
                for word in WORDS + ["", "level", "above", "of  level", "planar", "None", "apexes"]:
                    if word != claim[0]:
                        self.check((word,) + claim[1:], paper)
                for word in (None, 0, True, b"linked", ("linked",), ["linked"], Odd(), {}):
                    self.assertIs(accepts((word,) + claim[1:], paper), False)

    def test_no_graphs_and_no_levels(self):
        for claim, paper in right_papers(K4) + right_papers(K5):
            for at, value in enumerate(NO_GRAPHS):
                with self.subTest(claim=claim, at=at):
                    self.assertIs(accepts(claim[:1] + (value,) + claim[2:], paper), False)
                    if claim[0] == "minor":
                        self.assertIs(accepts(claim[:2] + (value,), paper), False)
            if claim[0] in ("of level", "above level", "critical"):
                for at, value in enumerate(NO_LEVELS):
                    with self.subTest(claim=claim, at=at):
                        self.assertIs(accepts(claim[:2] + (value,), paper), False)

    def test_truths_are_no_numbers(self):
        one = ((0,), (1,), (2,))
        self.assertIs(accepts(("of level", EDGE, 1), ((0, 1),)), True)
        for claim, paper in [
                (("of level", EDGE, True), ((0, 1),)), (("of level", EDGE, 1), ((0, True),)),
                (("of level", EDGE, 1), ((False, 1),)), (("of level", (2, ((0, True),)), 1), ((0, 1),)),
                (("of level", (2, ((False, 1),)), 1), ((0, 1),)), (("of level", (True, ()), 1), ((0,),)),
                (("above level", whole_graph(3), True), (0, one)), (("above level", whole_graph(3), 1), (False, one)),
                (("above level", K33, 3), (True, tuple((k,) for k in range(6)))),
                (("above level", whole_graph(3), 1), (0, ((0,), (True,), (2,)))), (("apex", PRISM, True), ()),
                (("apex", ONE, False), ()), (("apex", EDGE, True), ((),)), (("critical", whole_graph(3), True), ()),
                (("minor", EDGE, (True, ())), ((0,),)), (("uncrossed", K4), (((0, 2), True),)),
                (("uncrossed", K4), (((False, 2), 1),)), (("odd crossings", K4, (), (((False, 2), (1, 3)),)), ()),
                (("odd crossings", K4, (), (((0, 2), (True, 3)),)), ()), (("odd crossings", K4, (((0, 2), True),), ()), ()),
                (("odd links", K6, (), (((0, 2, 4), (True, 3, 5)),)), ()),
                (("odd links", K6, (), (((False, 2, 4), (1, 3, 5)),)), ()),
                (("odd links", PRISM, (((0, True), (3, 4)),), (((0, 1, 2), (3, 4, 5)),)), ()),
                (("odd links", PRISM, (((0, 1), (3, 4)),), (((0, True, 2), (3, 4, 5)),)), ()),
                (("unlinked", PRISM), (((0, True), (3, 4)), ((0, 1), (3, 5))))]:
            self.assertIs(accepts(claim, paper), False, (claim, paper))

    def test_things_of_any_kind(self):
        deep = nested(20)
        for at, thing in enumerate(ANYTHING + STRANGE + [Odd, deep]):
            with self.subTest(at=at):
                self.assertIs(accepts(thing, ()), False)
                self.assertIs(accepts(thing, thing), False)
                for graph in (ONE, K4, PRISM, K6):
                    for word in WORDS:
                        for claim in ((word, thing), (word, graph, thing), (word, thing, 3), (word, graph, thing, ()),
                                      (word, graph, (), thing), (word, graph, (thing,), ()), (word, graph, (), (thing,))):
                            # An edge's pair and the like may stand among these; most are no claims.
                            self.assertIn(accepts(claim, ()), (True, False))
                            self.assertIs(accepts(claim, (Odd(),)), False)
        for graph in GRAPHS + [K6]:
            for claim, _ in right_papers(graph):
                for at, thing in enumerate(ANYTHING + STRANGE + [deep]):
                    if type(thing) is not tuple:
                        self.assertIs(accepts(claim, thing), False, claim)
                    self.assertIs(accepts(claim, (Odd(), thing)), False, claim)

    def test_without_change_and_again(self):
        for claim, paper in [right for graph in GRAPHS for right in right_papers(graph)]:
            before = copy.deepcopy((claim, paper))
            self.assertEqual(accepts(claim, paper), accepts(claim, paper))
            self.assertEqual((claim, paper), before)


class ParitiesTest(CheckerTest):
    def test_rows_that_do_not_ascend_or_are_of_another_graph(self):
        moves = (((0, 1), 2), ((0, 1), 3), ((0, 2), 1))
        passes = (((0, 1), (2, 5)), ((0, 1), (3, 4)), ((0, 2), (1, 4)), ((1, 4), (3, 5)))
        for word, tell, some, whole in (("odd crossings", odd_crossings, moves, tuple(all_moves(PRISM))),
                                        ("odd links", odd_links, passes, edge_pairs(PRISM))):
            for right in (some, whole):
                pairs = tell(PRISM, right)
                self.assertIs(accepts((word, PRISM, right, pairs), ()), True)
                for wrong in (right[::-1], right + right[-1:], right[:1] + right, right[1:] + right[:1], list(right),
                              right + (None,), (None,) + right, right + (((0, 4), 2),), right + (((0, 4), (1, 2)),),
                              right + (((4, 5), 9),), right + (((4, 5), (6, 7)),), None, 0, (right,)):
                    self.assertIs(accepts((word, PRISM, wrong, pairs), ()), False, wrong)
                self.assertIs(accepts((word, path_of(6), right, pairs), ()), False)

    def test_pairs_otherwise(self):
        chance = Random(31)
        for word, tell, rows, graphs in (
                ("odd crossings", odd_crossings, all_moves, (K4, PRISM, K5, K33)),
                ("odd links", odd_links, apart, (TWO_TRIANGLES, PRISM, K6, whole_graph(7)))):
            for graph in graphs:
                for _ in range(4):
                    some = some_of(rows(graph), chance)
                    pairs = tell(graph, some)
                    self.assertIs(accepts((word, graph, some, pairs), ()), True)
                    every = edge_pairs(graph) if word == "odd crossings" else cycle_pairs(graph)
                    others = [tuple(sorted(pairs + (pair,))) for pair in every if pair not in pairs]
                    others += [pairs[:k] + pairs[k + 1:] for k in range(len(pairs))]
                    others += [list(pairs), pairs + (None,), None, 0, "", (pairs,)]
                    if pairs:
                        others += [pairs + pairs[-1:], pairs[:1] + pairs, tuple(pair[::-1] for pair in pairs)]
                        others += [tuple((pair[0], pair[1][::-1]) for pair in pairs)]
                    if len(pairs) > 1:
                        others += [pairs[::-1], pairs[1:] + pairs[:1]]
                    for other in others:
                        self.assertIs(accepts((word, graph, some, other), ()), False, other)
                    for paper in (some or None, pairs or None, [], ((),), 0):
                        self.assertIs(accepts((word, graph, some, pairs), paper), False)


class AllPapersTest(CheckerTest):
    def test_all_moves_of_a_flat_graph_and_of_none(self):
        rows = all_moves(K4)
        found = [value for value in lots_of(rows) if self.check(("uncrossed", K4), value)]
        # One of three pairs crosses; each pair asks for a parity of four moves of its own.
        self.assertEqual(len(found), 2 ** 9)
        chance = Random(32)
        for graph in (K5, K33):
            for _ in range(60):
                self.assertIs(accepts(("uncrossed", graph), some_of(all_moves(graph), chance)), False)

    def test_all_passes_between_two_triangles(self):
        lots = lots_of(apart(TWO_TRIANGLES))
        self.assertEqual(len(lots), 512)
        for claim in (("of level", TWO_TRIANGLES, 4), ("unlinked", TWO_TRIANGLES)):
            for value in lots:
                self.assertIs(self.check(claim, value), len(value) % 2 == 0)

    def test_all_witnesses(self):
        self.assertEqual([value for value in lots_of(apart(K5)) if accepts(("crossed", K5), value)], [tuple(apart(K5))])
        self.assertEqual([value for value in lots_of(cycle_pairs(K6)) if accepts(("linked", K6), value)],
                         [cycle_pairs(K6)])

    def test_all_rotations(self):
        for graph, flat, outer in ((K4, 2, 0), (PRISM, 2, 0), (FAN, 4, 2), (TWO_TRIANGLES, 1, 1)):
            rows = list(all_rotations(graph))
            self.assertEqual([sum(self.check(("of level", graph, level), value) for value in rows) for level in (3, 2)],
                             [flat, outer], graph)

    def test_all_layings(self):
        graph = (4, ((0, 2), (1, 2)))
        lots = [row for many in range(5) for row in permutations(range(4), many)]
        rows = [value for many in range(3) for value in product(lots, repeat=many)]
        self.assertEqual(sum(self.check(("of level", graph, 1), value) for value in rows), 4)

    def test_all_models(self):
        lots = [lot for many in range(5) for lot in combinations(range(4), many)]
        for other, graph in ((whole_graph(3), K4), (path_of(3), path_of(4)), (ONE, K4), ((2, ()), (4, ((0, 1),)))):
            for value in product(lots, repeat=other[0]):
                self.check(("minor", graph, other), value)
        for graph in one_less(K4) + [K4]:
            for value in product(lots[1:], repeat=3):
                self.check(("above level", graph, 1), (0, value))
                self.check(("above level", graph, 1), (1, value + ((3,),)))


def lots_of(parts):
    return [tuple(part for k, part in enumerate(parts) if lot >> k & 1) for lot in range(1 << len(parts))]


if __name__ == "__main__":
    unittest.main()
