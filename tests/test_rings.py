"""rings(grid): all lists of cells whose rim is one ring (point 7)."""

import inspect
import unittest

from reckoning import all_lists, is_ring, small_grids
from sidering.rings import rings

BY_HAND = [
    ((1, 1), [[0]]),
    ((1, 2), [[0], [0, 1], [1]]),
    ((2, 1), [[0], [0, 1], [1]]),
    ((1, 3), [[0], [0, 1], [0, 1, 2], [1], [1, 2], [2]]),
    (
        (2, 2),
        [[0], [0, 1], [0, 1, 2], [0, 1, 2, 3], [0, 1, 3], [0, 2], [0, 2, 3]]
        + [[1], [1, 2, 3], [1, 3], [2], [2, 3], [3]],
    ),
]

RUNS = [[0], [0, 1], [0, 1, 2], [0, 1, 2, 3], [0, 1, 2, 3, 4], [0, 1, 2, 3, 4, 5]]
RUNS += [[1], [1, 2], [1, 2, 3], [1, 2, 3, 4], [1, 2, 3, 4, 5]]
RUNS += [[2], [2, 3], [2, 3, 4], [2, 3, 4, 5], [3], [3, 4], [3, 4, 5], [4], [4, 5], [5]]


class TestRings(unittest.TestCase):
    def test_by_hand(self):
        for grid, wanted in BY_HAND:
            self.assertEqual(rings(grid), wanted, grid)

    def test_one_row_and_one_column(self):
        self.assertEqual(rings((1, 6)), RUNS)
        self.assertEqual(rings((6, 1)), RUNS)

    def test_three_by_three(self):
        found = rings((3, 3))
        # As many as there are ways round on four by four points.
        self.assertEqual(len(found), 213)
        self.assertIn([0, 1, 2, 3, 4, 5, 6, 7, 8], found)
        self.assertIn([0, 1, 2, 3, 6, 7, 8], found)
        self.assertNotIn([0, 1, 2, 3, 5, 6, 7, 8], found)
        self.assertNotIn([0, 4], found)

    def test_all_grids_by_reckoning(self):
        self.assertEqual(len(small_grids()), 17)
        for grid in small_grids():
            wanted = sorted(cells for cells in all_lists(grid) if is_ring(grid, cells))
            self.assertEqual(rings(grid), wanted, grid)

    def test_lists_of_whole_numbers(self):
        for grid in small_grids():
            found = rings(grid)
            self.assertIs(type(found), list)
            self.assertEqual({type(cells) for cells in found}, {list})
            self.assertEqual({type(cell) for cells in found for cell in cells}, {int})

    def test_what_is_told_may_be_changed(self):
        for grid in ((1, 1), (2, 2), (3, 3)):
            once, again = rings(grid), rings(grid)
            lists = once + again
            self.assertEqual(len({id(cells) for cells in lists}), len(lists))
            kept = [list(cells) for cells in again]
            for cells in once:
                cells.append(99)
            once.clear()
            self.assertEqual(again, kept)
            self.assertEqual(rings(grid), kept)

    def test_the_interface_names_its_argument(self):
        self.assertEqual(list(inspect.signature(rings).parameters), ["grid"])
        self.assertEqual(rings(grid=(1, 1)), [[0]])


if __name__ == "__main__":
    unittest.main()
