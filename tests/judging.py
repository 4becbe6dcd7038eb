"""A judge of claims and papers of the tests' own, apart from the one of the package."""

from itertools import chain, combinations

from linkless.minors import family
from ways import (all_moves, apart, components_by_merging, crossings_by_count, dropped, is_crossing_witness_by_count,
                  is_flat_by_walks, is_linking_witness_by_count, is_model_by_sets, links_by_count, pairs_by_even_lots,
                  same_but_for_names, walks_by_steps)


def is_plain(value):
    """Whether the value is made of whole numbers, texts and tuples alone."""
    return type(value) in (int, str) or (type(value) is tuple and all(map(is_plain, value)))


def are_rows(value):
    """Whether the value is a tuple of tuples of whole numbers."""
    return type(value) is tuple and all(type(row) is tuple and all(type(part) is int for part in row) for row in value)


def are_some_of(value, parts):
    """Whether the value is an ascending tuple of some of the parts."""
    return type(value) is tuple and set(value) <= set(parts) and list(value) == sorted(set(value))


def is_right_graph(value):
    if type(value) is not tuple or len(value) != 2 or type(value[0]) is not int or not 1 <= value[0] <= 10:
        return False
    return are_some_of(value[1], combinations(range(value[0]), 2)) and len(value[1]) <= 24


def is_right_level(value):
    return type(value) is int and 1 <= value <= 4


def is_right_rotation(graph, value):
    ends = [sorted(sum(edge) - vertex for edge in graph[1] if vertex in edge) for vertex in range(graph[0])]
    return are_rows(value) and [sorted(row) for row in value] == ends and is_flat_by_walks(graph, value)


def are_right_paths(graph, value):
    if not are_rows(value) or () in value or sorted(chain(*value)) != list(range(graph[0])):
        return False
    steps = [tuple(sorted(step)) for path in value for step in zip(path, path[1:])]
    return sorted(steps) == list(graph[1])


def is_right_outer(graph, value):
    if not is_right_rotation(graph, value):
        return False
    met = [set(walk) for walk in walks_by_steps(value)]
    return all(set(lot) in met for lot in components_by_merging(graph) if len(lot) > 1)


def has_right_crossings(graph, moves, pairs):
    return are_some_of(moves, all_moves(graph)) and crossings_by_count(graph, moves) == pairs


def has_right_links(graph, passes, pairs):
    return are_some_of(passes, apart(graph)) and links_by_count(graph, passes) == pairs


def judge_level(graph, level, paper):
    if not is_right_level(level):
        return False
    if level == 4:
        return has_right_links(graph, paper, ())
    return (are_right_paths, is_right_outer, is_right_rotation)[level - 1](graph, paper)


def judge_above(graph, level, paper):
    if not is_right_level(level) or type(paper) is not tuple or len(paper) != 2:
        return False
    index, model = paper
    return index in range(len(family(level))) and judge_minor(graph, family(level)[index], model)


def judge_minor(graph, other, paper):
    return is_right_graph(other) and are_rows(paper) and is_model_by_sets(graph, other, paper)


def judge_crossed(graph, paper):
    return are_some_of(paper, apart(graph)) and is_crossing_witness_by_count(graph, paper)


def judge_linked(graph, paper):
    return are_some_of(paper, pairs_by_even_lots(graph)) and is_linking_witness_by_count(graph, paper)


def judge_apex(graph, vertex, paper):
    if type(vertex) is not int or not 0 <= vertex < graph[0]:
        return False
    return paper == () if graph[0] == 1 else is_right_rotation(dropped(graph, vertex), paper)


def judge_critical(graph, level, paper):
    return is_right_level(level) and paper == () and any(same_but_for_names(graph, other) for other in family(level))


JUDGES = {
    ("of level", 3): judge_level, ("above level", 3): judge_above, ("minor", 3): judge_minor,
    ("uncrossed", 2): lambda graph, paper: has_right_crossings(graph, paper, ()), ("crossed", 2): judge_crossed,
    ("unlinked", 2): lambda graph, paper: has_right_links(graph, paper, ()), ("linked", 2): judge_linked,
    ("odd crossings", 4): lambda graph, moves, pairs, paper: paper == () and has_right_crossings(graph, moves, pairs),
    ("odd links", 4): lambda graph, passes, pairs, paper: paper == () and has_right_links(graph, passes, pairs),
    ("apex", 3): judge_apex, ("critical", 3): judge_critical}


def is_accepted(claim, paper):
    """Whether the paper is to be accepted for the claim."""
    if not is_plain(claim) or not is_plain(paper) or type(claim) is not tuple or len(claim) < 2:
        return False
    judge = JUDGES.get((claim[0], len(claim)))
    return judge is not None and is_right_graph(claim[1]) and bool(judge(*claim[1:], paper))
