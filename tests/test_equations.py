import unittest
from functools import reduce
from itertools import product
from operator import xor
from random import Random

from linkless.equations import contradiction, is_odd, mark, solution


def holds(row, chosen):
    """Whether the chosen unknowns have the parity of the right side."""
    return sum(row >> (unknown + 1) & 1 for unknown in chosen) % 2 == row & 1


class EquationsTest(unittest.TestCase):
    def check(self, rows, unknowns):
        found, barred = solution(rows), contradiction(rows)
        lots = [[k for k in range(unknowns) if lot[k]] for lot in product((0, 1), repeat=unknowns)]
        self.assertEqual(found is not None, any(all(holds(row, lot) for row in rows) for lot in lots), rows)
        self.assertNotEqual(found is None, barred is None, rows)
        if found is not None:
            self.assertEqual(found, sorted(set(found)))
            self.assertTrue(all(holds(row, found) for row in rows), rows)
        else:
            self.assertEqual(barred, sorted(set(barred)))
            self.assertEqual(reduce(xor, [rows[k] for k in barred]), 1)

    def test_by_all_choices(self):
        chance = Random(17)
        for unknowns in range(7):
            for many in range(10):
                for _ in range(15):
                    self.check([chance.randrange(2 << unknowns) for _ in range(many)], unknowns)

    def test_by_hand(self):
        self.assertEqual([solution([]), contradiction([])], [[], None])
        self.assertEqual([solution([1]), contradiction([0, 1])], [None, [1]])
        self.assertEqual([solution([mark(0) + 1, mark(3) + 1]), contradiction([mark(0)] * 3)], [[0, 3], None])
        rows = [mark(0) + mark(1), mark(1) + mark(2) + 1, mark(5), mark(0) + mark(2)]
        self.assertEqual(contradiction(rows), [0, 1, 3])

    def test_bits(self):
        self.assertEqual([mark(0), mark(1), mark(9)], [2, 4, 1024])
        self.assertEqual([is_odd(number) for number in (0, 1, 2, 3, 7, 10 ** 20)],
                         [bin(number).count("1") % 2 == 1 for number in (0, 1, 2, 3, 7, 10 ** 20)])


if __name__ == "__main__":
    unittest.main()
