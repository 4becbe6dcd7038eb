import unittest
from itertools import permutations

from linkless.errors import InvalidGraph, InvalidText
from linkless.texts import read_graph, show_graph
from ways import ANYTHING, LARGE, NO_GRAPHS, PRISM, SMALL, all_graphs, whole_graph

# A text and the index at which it is refused.
REFUSED = [
    ("", 0), (" ", 0), ("    ", 0), ("0:", 0), ("11:", 0), ("10", 0), ("3", 0), (":", 0), ("3 :", 0), ("3 : 0-1", 0),
    ("03:", 0), ("00:", 0), ("010:", 0), ("-3:", 0), ("+3:", 0), ("3::", 0), (":3", 0), ("3:0-1", 0), ("3;", 0),
    ("a:", 0), ("3.:", 0), ("3_:", 0), ("1_0:", 0), ("0-1", 0), ("0-1 3:", 0), ("\u0663:", 0), ("\uff13:", 0),
    ("\u00b2:", 0), ("3\uff1a", 0), ("100:", 0), ("9" * 100 + ":", 0), ("\t3:", 0), ("\n3:", 0), ("3:\n", 0),
    ("3:\t0-1", 0), ("3:\n0-1", 0), ("3:\u00a00-1", 0), ("'3:'", 0),
    ("3: 0", 1), ("3: -", 1), ("3: 0-", 1), ("3: -1", 1), ("3: 0-1-2", 1), ("3: 0--1", 1), ("3: 0 - 1", 1),
    ("3: 0- 1", 1), ("3: 0 -1", 1), ("3: 0-1,", 1), ("3: 0,1", 1), ("3: 00-1", 1), ("3: 0-01", 1), ("3: 0-0", 1),
    ("3: 2-2", 1), ("3: 0-3", 1), ("3: 3-0", 1), ("3: 3-3", 1), ("1: 0-0", 1), ("1: 0-1", 1), ("10: 0-10", 1),
    ("3: 0:1", 1), ("3: 0-+1", 1), ("3: 0-\u0661", 1), ("3: 0-1\n", 1), ("3: 0-1\t1-2", 1), ("3: \n", 1), ("3: :", 1),
    ("3: 3:", 1), ("3: (0,1)", 1), ("3: 0\u20131", 1), ("3: 0-" + "9" * 100, 1), ("3: 0-_1", 1), ("3: 0-1_", 1),
    ("3: 0-1 0-1", 2), ("3: 0-1 1-0", 2), ("3: 1-0 0-1", 2), ("3: 0-1 1-3", 2), ("3: 0-1 x 0-1", 2), ("3: 0-1 ,", 2),
    ("3: 0-1 1-2 0-2 0-2", 4), ("3: 0-1 1-2 0-2 2-1 5-5", 4), ("  3:   0-1   1-2   9-9   0-1 ", 3)]


def shown(graph):
    """The text of a graph with its edges and their ends the other way about, and many blanks."""
    return f"   {graph[0]}:" + "".join(f"    {high}-{low}" for low, high in reversed(graph[1])) + "     "


class ShowGraphTest(unittest.TestCase):
    def test_by_hand(self):
        self.assertEqual(show_graph(PRISM), "6: 0-1 0-2 0-3 1-2 1-4 2-5 3-4 3-5 4-5")
        self.assertEqual([show_graph(graph=(1, ())), show_graph((10, ())), show_graph((10, ((0, 9), (8, 9))))],
                         ["1:", "10:", "10: 0-9 8-9"])

    def test_no_graphs(self):
        for at, value in enumerate(NO_GRAPHS):
            with self.subTest(at=at), self.assertRaises(InvalidGraph) as caught:
                show_graph(value)
            self.assertIs(caught.exception.given, value)


class ReadGraphTest(unittest.TestCase):
    def test_read_back(self):
        for graph in SMALL + LARGE + all_graphs(4):
            self.assertEqual(read_graph(show_graph(graph)), graph)
            self.assertEqual(read_graph(shown(graph)), graph)

    def test_edges_and_ends_in_any_order(self):
        for words in permutations(["0-1", "3-1", "2-3", "0-3"]):
            self.assertEqual(read_graph("4: " + " ".join(words)), (4, ((0, 1), (0, 3), (1, 3), (2, 3))))

    def test_by_hand(self):
        self.assertEqual([read_graph(text) for text in ("1:", " 1: ", "10:", "10:   9-0 ", "2: 1-0")],
                         [(1, ()), (1, ()), (10, ()), (10, ((0, 9),)), (2, ((0, 1),))])
        self.assertEqual(read_graph(text="3: 2-0 1-0"), (3, ((0, 1), (0, 2))))

    def test_refused(self):
        for text, index in REFUSED:
            with self.subTest(text=text), self.assertRaises(InvalidText) as caught:
                read_graph(text)
            self.assertEqual((type(caught.exception.index), caught.exception.index), (int, index))

    def test_a_25th_edge(self):
        words = [f"{low}-{high}" for low, high in whole_graph(10)[1]]
        self.assertEqual(len(read_graph("10: " + " ".join(words[:24]))[1]), 24)
        for many in (25, 26, 45):
            with self.assertRaises(InvalidText) as caught:
                read_graph("10: " + " ".join(words[:many]))
            self.assertEqual(caught.exception.index, 25)
        # A wrong word ahead of it is told instead, one behind it is not.
        for place, index in ((24, 24), (25, 25), (26, 25)):
            with self.assertRaises(InvalidText) as caught:
                read_graph(" ".join(["10:", *words[:place - 1], "0-0", *words[place - 1:]]))
            self.assertEqual(caught.exception.index, index)

    def test_no_texts(self):
        for at, value in enumerate(ANYTHING + [b"3: 0-1", ("3:", "0-1"), ["3: 0-1"], (3, ((0, 1),))]):
            if not isinstance(value, str):
                with self.subTest(at=at), self.assertRaises(InvalidText) as caught:
                    read_graph(value)
                self.assertIsNone(caught.exception.index)

    def test_figures_of_all_numbers(self):
        for number in range(1, 11):
            self.assertEqual(read_graph(f"{number}:"), (number, ()))
        for high in range(1, 10):
            self.assertEqual(read_graph(f"10: {high}-0"), (10, ((0, high),)))


if __name__ == "__main__":
    unittest.main()
