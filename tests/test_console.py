import copy
import re
import unittest
from random import Random

from linkless.changes import claw_for, cone, contracted, triangle_for, without_edge, without_vertex
from linkless.console import fresh_console, said, told_all
from linkless.crossings import crossing_witness, moves_of
from linkless.errors import InvalidLines
from linkless.graphs import components, cycle_pairs, cycles, edge_pairs
from linkless.levels import apexes, is_critical, least_level, most_edges
from linkless.links import linking_witness, odd_links, passes_of
from linkless.minors import family, minor
from linkless.planes import outer_rotation, paths_of, rotation_of
from linkless.texts import show_graph
from ways import ANYTHING, FULL, FULL_HALVES, LARGE, PETERSEN, PRISM, SMALL, Odd, halves_graph, path_of, whole_graph

K4, K5, K6 = whole_graph(4), whole_graph(5), whole_graph(6)
FLOWER = (7, ((0, 1), (0, 2), (0, 3), (0, 4), (1, 2), (3, 4)))
STATES = SMALL + LARGE + [FLOWER, path_of(10), (10, ()), (7, whole_graph(7)[1])]
NOT = "not understood"
OF_STATE = ["show", "level", "cycles", "pairs", "components", "apexes", "paths", "critical 1", "plane", "outer", "moves",
            "passes", "odd", "odd 0-1 2-3", "minor 1", "delete 0-1", "contract 0-1", "drop 0", "cone", "claw 0 1 2",
            "triangle 0"]
# Never understood, whatever the state is.
STRANGE = [
    "", " ", "     ", "\t", "x", "Show", "SHOW", "sHow", "shows", "sho", "show\t", "\tshow", "show\u00a0", "show.", "-show",
    "graph4:", "graph:", "Graph 4:", "graphs 4:", "\tgraph 4:", "4: 0-1", "family", "family 1", "family 1 0 0",
    "family 0 0", "family 5 0", "family 1 2", "family 2 2", "family 3 2", "family 4 7", "family 04 0", "family 4 00",
    "family 4 01", "family -1 0", "family 1 -1", "family +1 0", "family 1 +1", "family 10 0", "family 4 100", "family 4\t0",
    "family 4-0", "family four 0", "family \u0664 0", "family 4 \u0660", "family 4: 0", "Family 4 0", "most", "most 4",
    "most 4 6 1", "most 0 6", "most 5 6", "most 4 0", "most 4 11", "most 4 99", "most 4 100", "most 4 06", "most 04 6",
    "most +4 6", "most 4 -6", "most 4\t6", "most 4 6.", "most 4 \u0666", "Most 4 6", "back 1", "back back", "back .", "Back",
    "backs", "BACK", "back\t", "back\r", "nothing", "none", "help", "quit", "0", "1 2", "\u0000", "\u2028show", "show;level",
    "show,", "'show'", "critical1", "odd0-1", "drop0", "cone.", "\u0455how"]
# Not understood with a state, of which the first word is one that asks for a state.
MALFORMED = [
    "show 1", "show show", "level 1", "level 0", "cycles 3", "pairs 0", "components 1", "apexes 0", "paths 1", "plane 0",
    "outer 0", "moves 0", "passes 0", "show .", "show \t",
    "critical", "critical 0", "critical 5", "critical 1 1", "critical 01", "critical +1", "critical -1", "critical one",
    "critical 1.", "critical \u0661", "critical 10", "critical 1-2", "critical \t1",
    "minor", "minor 0", "minor 5", "minor 1 1", "minor 01", "minor +1", "minor -1", "minor one", "minor \u0661", "minor 14",
    "delete", "delete 0", "delete 0 1", "delete 0-1 0-2", "delete 1-0", "delete 0-0", "delete 0-1-2", "delete 0--1",
    "delete 00-1", "delete 0-01", "delete 0-100", "delete 100-101", "delete -1", "delete 0-", "delete 0-+1", "delete +0-1",
    "delete 0-x", "delete (0,1)", "delete 0,1", "delete 0-\u0661", "delete 0 - 1", "delete 0-1.", "delete 0-1\t", "delete 99-98",
    "contract", "contract 0", "contract 0 1", "contract 0-1 0-2", "contract 1-0", "contract 0-0", "contract 0-1-2",
    "contract 00-1", "contract 0-100", "contract 0-x", "contract 5-3",
    "drop", "drop 0 1", "drop 00", "drop 01", "drop 100", "drop 999", "drop -1", "drop +1", "drop x", "drop 0-1", "drop \u0661",
    "drop 1.", "drop 1\t", "drop 0x1", "drop 1_0",
    "triangle", "triangle 0 1", "triangle 0 1 2", "triangle 00", "triangle 100", "triangle -1", "triangle x", "triangle 0-1",
    "cone 1", "cone cone", "cone .",
    "claw", "claw 0", "claw 0 1", "claw 0 1 2 3", "claw 0 2 1", "claw 1 0 2", "claw 2 1 0", "claw 0 0 1", "claw 0 1 1",
    "claw 1 1 1", "claw 0 1 02", "claw 00 1 2", "claw 0 1 100", "claw 0-1-2", "claw 0 1 x", "claw 0 1 -2", "claw 0, 1, 2",
    "claw +0 1 2", "claw 0 1\t2", "claw 97 99 98"]


def dashed(rows):
    return " ".join("-".join(map(str, row)) for row in rows) or "none"


def turned(rotation):
    return "none" if rotation is None else " ".join("-".join(map(str, row)) or "." for row in rotation)


def sized(graph):
    return f"{graph[0]} vertices, {len(graph[1])} edges"


def shown_edge(edge):
    return f"{edge[0]}-{edge[1]}"


class ConsoleTest(unittest.TestCase):
    def asked(self, state, line, answer, earlier=()):
        """The line is answered so, and leaves the console as it is."""
        console = (state, earlier)
        self.assertEqual(said(console, line), (console, answer), (state, line))

    def changed(self, state, line, after, earlier=()):
        """The line leads from the state to another one, and puts it behind the earlier ones."""
        found = said((state, earlier), line)
        self.assertEqual(found, ((after, earlier + (state,)), sized(after)), (state, line))


class FreshTest(ConsoleTest):
    def test_fresh(self):
        self.assertEqual(fresh_console(), (None, ()))
        self.assertEqual([type(part) for part in fresh_console()], [type(None), tuple])

    def test_nothing_yet(self):
        for line in OF_STATE + MALFORMED:
            first = line.split(" ")[0]
            for more in (line, first, first + " ", "  " + first, first + " x y z", first + " \t", first + " 0 0 0 0"):
                self.asked(None, more, "nothing yet")
                self.asked(None, more, "nothing yet", (K4, None))
        for line in STRANGE:
            self.asked(None, line, NOT)

    def test_what_asks_for_no_state(self):
        self.assertEqual(said(fresh_console(), "most 4 6"), (fresh_console(), "14"))
        self.assertEqual(said(fresh_console(), "back"), (fresh_console(), "nothing there"))
        self.assertEqual(said(fresh_console(), "graph 1:"), (((1, ()), (None,)), "1 vertices, 0 edges"))
        self.assertEqual(said(fresh_console(), "family 4 0"), ((K6, (None,)), "6 vertices, 15 edges"))
        self.assertEqual(said(fresh_console(), "graph"), (fresh_console(), "not read at 0"))


class NotUnderstoodTest(ConsoleTest):
    def test_strange_and_malformed(self):
        for state in (PRISM, K6, (1, ())):
            for line in STRANGE + MALFORMED:
                self.asked(state, line, NOT)
                self.asked(state, line, NOT, (None, K4))

    def test_a_new_line_anywhere(self):
        lines = OF_STATE + ["back", "most 4 6", "family 1 0", "graph 4: 0-1", "graph", ""]
        for line in lines:
            for place in range(len(line) + 1):
                for state in (None, PRISM):
                    self.asked(state, line[:place] + "\n" + line[place:], NOT, (K4,))
        # Other signs that end lines elsewhere are signs as others are.
        for sign in "\r\t\x0b\x0c\x1c\x85\u2028":
            self.asked(None, "show" + sign, NOT)
            self.asked(None, "show " + sign, "nothing yet")
            self.asked(PRISM, "show " + sign, NOT)
            self.asked(PRISM, "graph 3:" + sign, "not read at 0")
            self.asked(PRISM, "graph 3: " + sign, "not read at 1")

    def test_blanks_of_any_number(self):
        for state in (None, PRISM):
            for line in OF_STATE + ["back", "most 4 6", "family 1 0", "graph 4: 0-1 2-1", "graph", "graph 3: 0-3"]:
                expected = said((state, (K4,)), line)
                for blank in (" ", "  ", "     "):
                    for ahead, behind in (("", ""), (blank, ""), ("", blank), (blank, blank * 3)):
                        self.assertEqual(said((state, (K4,)), ahead + line.replace(" ", blank) + behind), expected, line)


class GraphLineTest(ConsoleTest):
    def test_read(self):
        for graph in STATES:
            if graph != PRISM:
                self.changed(PRISM, "graph " + show_graph(graph), graph)
                self.changed(None, "graph " + show_graph(graph), graph, (K4, None))
        self.changed(K4, "   graph   4:   3-2  1-0 ", (4, ((0, 1), (2, 3))))

    def test_not_read(self):
        for text, index in (("", 0), ("4", 0), ("0:", 0), ("11:", 0), ("04:", 0), ("4:0-1", 0), ("4 :", 0), ("graph 4:", 0),
                            ("4: 0-4", 1), ("4: 1-1", 1), ("4: x", 1), ("4: 0-1 1-0", 2), ("4: 0-1 0-1", 2), ("3: 0-3", 1),
                            ("4: 0-1 1-2 2-3 0-3 0-2 1-3 0-1", 7), ("4: 0-1 5", 2), ("4: 00-1", 1), ("4: 0-1,", 1),
                            ("10: " + " ".join(map(shown_edge, whole_graph(10)[1])), 25)):
            for state in (None, PRISM):
                self.asked(state, "graph " + text, f"not read at {index}", (K4,))
                self.asked(state, "  graph   " + text.replace(" ", "   ") + "  ", f"not read at {index}")

    def test_the_same_graph_again(self):
        for graph in (PRISM, K6, (1, ())):
            self.asked(graph, "graph " + show_graph(graph), sized(graph), (K4,))
        self.asked(K6, "family 4 0", "6 vertices, 15 edges", (None,))
        self.asked(PRISM, "graph 6: 5-4 0-1 0-2 0-3 1-2 1-4 2-5 3-4 3-5", sized(PRISM))


class FamilyAndMostTest(ConsoleTest):
    def test_family(self):
        for level in (1, 2, 3, 4):
            for index, other in enumerate(family(level)):
                self.changed(None, f"family {level} {index}", other)
                self.changed(FULL, f"family {level} {index}", other, (None, K4))
            self.asked(FULL, f"family {level} {len(family(level))}", NOT)

    def test_most(self):
        for level in range(7):
            for vertices in range(13):
                right = 1 <= level <= 4 and 1 <= vertices <= 10
                answer = str(most_edges(level, vertices)) if right else NOT
                for state in (None, PRISM):
                    self.asked(state, f"most {level} {vertices}", answer, (None,))


class AskingTest(ConsoleTest):
    def test_what_the_parts_tell(self):
        for state in STATES:
            moves, passes = moves_of(state), passes_of(state)
            told = {
                "show": show_graph(state), "level": str(least_level(state)), "cycles": str(len(cycles(state))),
                "pairs": str(len(cycle_pairs(state))), "components": dashed(components(state)),
                "apexes": " ".join(map(str, apexes(state))) or "none", "paths": dashed(paths_of(state) or ()),
                "plane": turned(rotation_of(state)), "outer": turned(outer_rotation(state)),
                "moves": f"crossed, {len(crossing_witness(state) or ())} pairs" if moves is None
                else f"flat with {len(moves)} moves",
                "passes": f"linked, {len(linking_witness(state) or ())} pairs" if passes is None
                else f"unlinked with {len(passes)} passes",
                "odd": str(len(odd_links(state, ())))}
            for level in (1, 2, 3, 4):
                told[f"critical {level}"] = "yes" if is_critical(state, level) else "no"
                found = minor(state, level)
                told[f"minor {level}"] = "none" if found is None else f"{found[0]}: {dashed(found[1])}"
            for line, answer in told.items():
                self.asked(state, line, answer)
                self.asked(state, line, answer, (None, K4, state))

    def test_by_hand(self):
        for state, line, answer in [
                (PRISM, "show", "6: 0-1 0-2 0-3 1-2 1-4 2-5 3-4 3-5 4-5"), ((1, ()), "show", "1:"), (PRISM, "level", "3"),
                (K6, "level", "5"), (path_of(4), "level", "1"), (K5, "level", "4"), (PRISM, "cycles", "14"),
                (PRISM, "pairs", "1"), (K6, "pairs", "10"), (K5, "pairs", "0"), ((1, ()), "cycles", "0"),
                ((5, ((0, 3), (1, 4))), "components", "0-3 1-4 2"), ((1, ()), "components", "0"), (K6, "apexes", "none"),
                (K4, "apexes", "0 1 2 3"), ((1, ()), "apexes", "0"), ((6, K6[1][1:]), "apexes", "2 3 4 5"),
                (PRISM, "paths", "none"), ((1, ()), "paths", "0"), ((3, ()), "plane", ". . ."), ((1, ()), "outer", "."),
                ((2, ((0, 1),)), "plane", "1 0"), ((3, ((0, 2),)), "outer", "2 . 0"), (K5, "plane", "none"),
                (PRISM, "outer", "none"), (K4, "outer", "none"), (K6, "passes", "linked, 10 pairs"), (K6, "odd", "1"),
                (K6, "odd 0-1 2-3", "3"), (K6, "odd 2-3 0-1", "3"), (PRISM, "odd", "0"), (PRISM, "odd 0-1 3-4", "1"),
                (K4, "critical 2", "yes"), (K4, "critical 1", "no"), (K4, "critical 3", "no"), (K6, "critical 4", "yes"),
                (PRISM, "minor 3", "none"), (PRISM, "minor 4", "none"), (path_of(4), "minor 1", "none"),
                (path_of(3), "moves", "flat with 0 moves"), (path_of(3), "passes", "unlinked with 0 passes"),
                ((1, ()), "moves", "flat with 0 moves")]:
            self.asked(state, line, answer)
        self.assertIn(said((path_of(3), ()), "paths")[1], ("0-1-2", "2-1-0"))
        self.assertIn(said((K4, ()), "plane")[1], both_ways("1-2-3 0-3-2 0-1-3 0-2-1"))
        self.assertIn(said((whole_graph(3), ()), "minor 1")[1].split(" ")[0], ("0:",))
        self.assertRegex(said((halves_graph(3, 3), ()), "minor 3")[1], r"^1: \d \d \d \d \d \d$")
        self.assertEqual(said((K5, ()), "moves")[1], "crossed, 15 pairs")

    def test_odd(self):
        chance = Random(51)
        for state in (PRISM, K6, whole_graph(7), halves_graph(4, 4), PETERSEN):
            for many in (1, 2, 3, 8):
                passes = chance.sample(edge_pairs(state), many)
                told = [chance.sample(both, 2) for both in passes]
                line = "odd " + " ".join(shown_edge(edge) for both in told for edge in both)
                self.asked(state, line, str(len(odd_links(state, tuple(sorted(passes))))))
                # No pass twice, in whichever order; all edges are of the state, an even number of them.
                first = told[0]
                for more in (first, first[::-1], first[:1], [first[0], first[0]], [(0, 99), (1, 98)], [(0, 1), (0, 2)]):
                    self.asked(state, line + "".join(" " + shown_edge(edge) for edge in more), NOT)
        for line in ("odd 0-1", "odd 0-1 3-4 1-2", "odd 0-1 1-2", "odd 0-1 0-1", "odd 0-1 3-4 0-1 3-4", "odd 0-1 3-4 3-4 0-1",
                     "odd 0-1 4-3", "odd 1-0 3-4", "odd 0-1 2-3", "odd 0-1 3-5 0-4 1-2", "odd 0-4 1-2", "odd 0-1 3-6",
                     "odd 0-1 3-04", "odd 0-1,3-4", "odd 0-1 3-4 .", "odd 0", "odd 0 1", "odd x y", "odd 0-1 3 4", "odd 0-1 33-44",
                     "odd 0-1 3-100", "odd (0,1) (3,4)", "odd -", "odd - -", "odd none"):
            self.asked(PRISM, line, NOT)
        self.asked(K6, "odd 0-1 2-3 0-1 2-4", str(len(odd_links(K6, (((0, 1), (2, 3)), ((0, 1), (2, 4)))))))
        self.asked(K6, "odd 2-4 0-1 0-1 2-3", str(len(odd_links(K6, (((0, 1), (2, 3)), ((0, 1), (2, 4)))))))


def both_ways(told):
    """A rotation's rows, each from its least neighbour on, in the one and in the other order."""
    rows = [row.split("-") for row in told.split(" ")]
    back = [row[:1] + row[:0:-1] for row in rows]
    turns = [[[row[k:] + row[:k] for k in range(len(row))] for row in lot] for lot in (rows, back)]
    found = []
    for lot in turns:
        told_rows = [""]
        for row in lot:
            told_rows = [ahead + " " + "-".join(turn) for ahead in told_rows for turn in row]
        found += [row[1:] for row in told_rows]
    return found


class ChangingTest(ConsoleTest):
    def test_each_edge_and_each_vertex(self):
        for state in SMALL + [PETERSEN, FLOWER]:
            for low in range(state[0] + 1):
                for high in range(low + 1, state[0] + 2):
                    for word, change in (("delete", without_edge), ("contract", contracted)):
                        if (low, high) in state[1]:
                            self.changed(state, f"{word} {low}-{high}", change(state, (low, high)))
                        else:
                            self.asked(state, f"{word} {low}-{high}", "not there", (None,))
            for vertex in range(state[0] + 2):
                if vertex < state[0] and state[0] > 1:
                    self.changed(state, f"drop {vertex}", without_vertex(state, vertex))
                else:
                    self.asked(state, f"drop {vertex}", "not there", (None,))
                if sum(vertex in edge for edge in state[1]) == 3:
                    self.changed(state, f"triangle {vertex}", triangle_for(state, vertex))
                else:
                    self.asked(state, f"triangle {vertex}", "not there", (None,))

    def test_cones_and_claws(self):
        for state in SMALL + [FLOWER]:
            if len(state[1]) + state[0] <= 24:
                self.changed(state, "cone", cone(state), (None, K4))
            for low in range(state[0]):
                for middle in range(low + 1, state[0]):
                    for high in range(middle + 1, state[0] + 1):
                        line = f"claw {low} {middle} {high}"
                        if {(low, middle), (low, high), (middle, high)} <= set(state[1]):
                            self.changed(state, line, claw_for(state, (low, middle, high)))
                        else:
                            self.asked(state, line, "not there")

    def test_too_many(self):
        seven = whole_graph(7)
        for state, line, answer in [((10, ()), "cone", "too many: 11"), (FULL, "cone", "too many: 11"),
                                    (seven, "cone", "too many: 28"), ((9, seven[1]), "cone", "too many: 30"),
                                    ((10, whole_graph(3)[1]), "claw 0 1 2", "too many: 11"), (FULL, "claw 0 1 2", "too many: 11"),
                                    (FULL_HALVES, "claw 0 1 2", "not there")]:
            self.asked(state, line, answer, (None, K4))
        self.changed((9, whole_graph(6)[1]), "cone", cone((9, whole_graph(6)[1])))

    def test_far_away(self):
        for line in ("delete 0-99", "delete 98-99", "contract 10-99", "drop 99", "drop 10", "triangle 99", "claw 0 1 99",
                     "claw 97 98 99"):
            for state in (PRISM, (1, ()), FULL):
                self.asked(state, line, "not there")


class BackTest(ConsoleTest):
    def test_back_one_by_one(self):
        console, states = fresh_console(), [None]
        for line in ("graph 4: 0-1 1-2 2-3", "cone", "show", "graph 9", "claw 0 1 4", "drop 77", "family 4 0", "family 4 0",
                     "delete 0-1", "level", "contract 0-2", "drop 0", "triangle 9", "cone", "graph 1:"):
            console, _ = said(console, line)
            if console[0] != states[-1]:
                states.append(console[0])
            self.assertEqual(console, (states[-1], tuple(states[:-1])))
        self.assertGreater(len(states), 8)
        for many in range(len(states) - 1, 0, -1):
            self.assertEqual(said(console, "  back "), ((states[many - 1], tuple(states[:many - 1])), "back"))
            console = said(console, "back")[0]
        self.assertEqual(console, fresh_console())
        self.assertEqual(said(console, "back"), (console, "nothing there"))

    def test_twenty_and_more(self):
        for many in (19, 20, 21, 22, 45):
            lines = tuple(f"graph 10: {a}-{b}" for a, b in whole_graph(10)[1][:many])
            states = [None] + [(10, (edge,)) for edge in whole_graph(10)[1][:many]]
            console, answers = told_all(fresh_console(), lines)
            self.assertEqual(answers, ("10 vertices, 1 edges",) * many)
            self.assertEqual(console, (states[-1], tuple(states[-21:-1])))
            kept = min(20, many)
            self.assertEqual(len(console[1]), kept)
            for step in range(1, kept + 1):
                console, answer = said(console, "back")
                self.assertEqual([console, answer], [(states[-1 - step], tuple(states[-21:-1 - step])), "back"])
            self.assertEqual(said(console, "back"), ((states[-1 - kept], ()), "nothing there"))

    def test_back_and_on_again(self):
        console, answers = told_all(fresh_console(), ("graph 2:", "cone", "back", "graph 3: 0-1", "back", "back", "back",
                                                      "show", "graph 2:"))
        self.assertEqual(console, ((2, ()), (None,)))
        self.assertEqual(answers, ("2 vertices, 0 edges", "3 vertices, 2 edges", "back", "3 vertices, 1 edges", "back",
                                   "back", "nothing there", "nothing yet", "2 vertices, 0 edges"))

    def test_full_and_unchanged(self):
        earlier = tuple((10, (edge,)) for edge in whole_graph(10)[1][:20])
        self.asked(PRISM, "graph " + show_graph(PRISM), sized(PRISM), earlier)
        self.asked(PRISM, "level", "3", earlier)
        self.assertEqual(said((PRISM, earlier), "drop 0")[0][1], earlier[1:] + (PRISM,))


def is_understood(state, line):
    """Whether the line has one of the forms, by patterns of the test's own."""
    number, level = "(?:0|[1-9][0-9]?)", "[1-4]"
    edge = f"{number}-{number}"
    plain = "back|show|level|cycles|pairs|components|apexes|paths|plane|outer|moves|passes|cone"
    forms = [plain, f"(?:critical|minor) {level}", f"(?:delete|contract) {edge}", f"(?:drop|triangle) {number}",
             f"claw {number} {number} {number}", f"odd(?: {edge} {edge})*", f"most {level} (?:[1-9]|10)",
             f"family {level} {number}"]
    words = [word for word in line.split(" ") if word]
    told = " ".join(words)
    if "\n" in line or not words:
        return False
    if words[0] == "graph":
        return True
    if not any(re.fullmatch(form, told) for form in forms):
        return False
    pairs = [tuple(map(int, word.split("-"))) for word in words[1:] if "-" in word]
    if words[0] == "odd":
        passes = [frozenset(pairs[k:k + 2]) for k in range(0, len(pairs), 2)]
        return (set(pairs) <= set(state[1]) and len(set(passes)) == len(passes)
                and all(len({end for edge in both for end in edge}) == 4 for both in passes))
    numbers = [int(word) for word in words[1:] if "-" not in word]
    if words[0] == "family":
        return numbers[1] < len(family(numbers[0]))
    return all(low < high for low, high in pairs) and (words[0] != "claw" or numbers == sorted(set(numbers)))


class ManyLinesTest(ConsoleTest):
    def test_lines_of_any_kind(self):
        chance = Random(52)
        firsts = sorted({line.split(" ")[0] for line in OF_STATE}) + ["back", "most", "family", "graph", "", "Show", "x"]
        parts = ["0", "1", "2", "3", "4", "5", "7", "10", "99", "100", "01", "0-1", "1-2", "0-2", "3-4", "2-5", "1-0", "2-2",
                 "4:", "3-5", "-", "x", "\t", "1\n", "0-1-2"]
        understood = 0
        for _ in range(6000):
            words = [chance.choice(firsts)] + chance.choices(parts[:8] + parts[11:16] if chance.random() < 0.6 else parts,
                                                             k=chance.choice((0, 0, 1, 1, 2, 3, 4)))
            line = chance.choice(("", " ")) + chance.choice((" ", "  ")).join(words)
            state = chance.choice((PRISM, K4, FLOWER))
            console, answer = said((state, (None,)), line)
            self.assertEqual(answer != NOT, is_understood(state, line), line)
            understood += answer != NOT
            if console[0] == state:
                self.assertEqual(console, (state, (None,)))
            elif line.split() == ["back"]:
                self.assertEqual(console, (None, ()))
            else:
                self.assertEqual((console[1], answer), ((None, state), sized(console[0])))
        self.assertGreater(understood, 1000)

    def test_told_all_beside_said(self):
        chance = Random(53)
        lines = OF_STATE + ["back", "back", "family 4 2", "family 3 1", "graph 5: 0-1 1-2 0-2", "graph 5: 5-5", "most 2 7",
                            "x", "", "drop 1", "cone", "drop 2", "contract 1-2", "show\n"]
        for many in (0, 1, 5, 30, 59, 60):
            for start in (fresh_console(), (PRISM, (None, K4)), (FULL, tuple([K4, K5] * 10))):
                rows = tuple(chance.choice(lines) for _ in range(many))
                before = copy.deepcopy((start, rows))
                console, answers = start, []
                for line in rows:
                    console, answer = said(console, line)
                    answers.append(answer)
                self.assertEqual(told_all(start, rows), (console, tuple(answers)))
                self.assertEqual(told_all(lines=rows, console=start), told_all(start, rows))
                self.assertEqual((start, rows), before)

    def test_by_name(self):
        self.assertEqual(said(line="graph 3:", console=fresh_console()), said(fresh_console(), "graph 3:"))


class RefusedTest(ConsoleTest):
    def test_no_text(self):
        for at, value in enumerate(ANYTHING + [b"show", ("show",), ["show"]]):
            if type(value) is not str:
                for console in (fresh_console(), (PRISM, (None,))):
                    with self.subTest(at=at), self.assertRaises(InvalidLines) as caught:
                        said(console, value)
                    self.assertIsNone(caught.exception.index)

    def test_no_tuples_and_too_many_lines(self):
        values = [value for value in ANYTHING if type(value) is not tuple]
        values += [["show"], {"show"}, {"show": 1}, ("show",) * 61, (None,) * 61, ("show",) * 60 + (None,), ("",) * 100]
        for at, value in enumerate(values):
            with self.subTest(at=at), self.assertRaises(InvalidLines) as caught:
                told_all(fresh_console(), value)
            self.assertIsNone(caught.exception.index)
        self.assertEqual(told_all(fresh_console(), ("most 1 5",) * 60), (fresh_console(), ("4",) * 60))
        self.assertEqual(told_all((K4, ()), ()), ((K4, ()), ()))

    def test_an_element_that_is_no_text(self):
        for at, thing in enumerate([None, True, 0, b"show", ("show",), ["show"], {}, Odd(), 10 ** 99, object]):
            for ahead in (0, 1, 7, 59):
                for more in ((), ("show",), (None,)):
                    lines = (("show",) * ahead + (thing,) + more)
                    with self.subTest(at=at), self.assertRaises(InvalidLines) as caught:
                        told_all(fresh_console(), lines)
                    self.assertEqual(caught.exception.index, ahead if len(lines) <= 60 else None)


if __name__ == "__main__":
    unittest.main()
