"""beside(grid, cell): which cells are beside one another (point 2)."""

import itertools
import unittest

from sidering.grids import beside


class TestBeside(unittest.TestCase):
    def test_by_hand(self):
        self.assertEqual(beside((1, 1), 0), [])
        self.assertEqual(beside((1, 3), 1), [0, 2])
        self.assertEqual(beside((3, 1), 1), [0, 2])
        self.assertEqual(beside((2, 3), 2), [1, 5])
        self.assertEqual(beside((2, 3), 3), [0, 4])
        self.assertEqual(beside((3, 3), 4), [1, 3, 5, 7])

    def test_all_cells_of_all_grids(self):
        for rows, columns in itertools.product(range(1, 7), range(1, 7)):
            places = list(itertools.product(range(rows), range(columns)))
            for cell, (row, column) in enumerate(places):
                wanted = [at for at, (down, right) in enumerate(places) if abs(down - row) + abs(right - column) == 1]
                self.assertEqual(beside((rows, columns), cell), wanted, (rows, columns, cell))


if __name__ == "__main__":
    unittest.main()
