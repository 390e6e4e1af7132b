"""numbers(grid, cells): what is told of the rim (points 1 to 3)."""

import inspect
import sys
import unittest

from reckoning import all_grids, counted, many_lists
from sidering.grids import numbers

BY_HAND = [
    ("one cell in all", (1, 1), [0], [[4]]),
    ("row, its first", (1, 6), [0], [[4, 1, 0, 0, 0, 0]]),
    ("row, its last", (1, 6), [5], [[0, 0, 0, 0, 1, 4]]),
    ("row, both ends", (1, 6), [0, 5], [[4, 1, 0, 0, 1, 4]]),
    ("row, one between two", (1, 3), [0, 2], [[4, 2, 4]]),
    ("row, all", (1, 3), [0, 1, 2], [[3, 2, 3]]),
    ("column, one of it", (6, 1), [2], [[0], [1], [4], [1], [0], [0]]),
    ("column, all", (3, 1), [0, 1, 2], [[3], [2], [3]]),
    ("two by two, corner", (2, 2), [3], [[0, 1], [1, 4]]),
    ("two by two, meeting at a point", (2, 2), [0, 3], [[4, 2], [2, 4]]),
    ("two by two, meeting at the point otherwise", (2, 2), [1, 2], [[2, 4], [4, 2]]),
    ("two by two, three cells", (2, 2), [0, 1, 2], [[2, 3], [3, 2]]),
    ("two by two, all", (2, 2), [0, 1, 2, 3], [[2, 2], [2, 2]]),
    ("wide, corner", (2, 3), [0], [[4, 1, 0], [1, 0, 0]]),
    ("wide, two at the edge", (2, 3), [1, 2], [[1, 3, 3], [0, 1, 1]]),
    ("wide, end of a row and start of the next", (2, 3), [2, 3], [[1, 1, 4], [4, 1, 1]]),
    ("wide, all", (2, 3), [0, 1, 2, 3, 4, 5], [[2, 1, 2], [2, 1, 2]]),
    ("high, at the edge", (3, 2), [2], [[1, 0], [4, 1], [1, 0]]),
    ("high, end of a row and start of the next", (3, 2), [1, 2], [[2, 4], [4, 2], [1, 0]]),
    ("three by three, middle", (3, 3), [4], [[0, 1, 0], [1, 4, 1], [0, 1, 0]]),
    ("three by three, at the edge", (3, 3), [5], [[0, 0, 1], [0, 1, 4], [0, 0, 1]]),
    ("three by three, round one", (3, 3), [0, 1, 2, 3, 5, 6, 7, 8], [[2, 2, 2], [2, 4, 2], [2, 2, 2]]),
    ("three by three, corners", (3, 3), [0, 2, 6, 8], [[4, 2, 4], [2, 0, 2], [4, 2, 4]]),
    ("three by three, cross", (3, 3), [1, 3, 4, 5, 7], [[2, 3, 2], [3, 0, 3], [2, 3, 2]]),
    (
        "six by six, last",
        (6, 6),
        [35],
        [[0] * 6, [0] * 6, [0] * 6, [0] * 6, [0, 0, 0, 0, 0, 1], [0, 0, 0, 0, 1, 4]],
    ),
    (
        "six by six, two in the middle",
        (6, 6),
        [14, 15],
        [[0] * 6, [0, 0, 1, 1, 0, 0], [0, 1, 3, 3, 1, 0], [0, 0, 1, 1, 0, 0], [0] * 6, [0] * 6],
    ),
    (
        "six by six, all",
        (6, 6),
        list(range(36)),
        [[2, 1, 1, 1, 1, 2], [1, 0, 0, 0, 0, 1], [1, 0, 0, 0, 0, 1]]
        + [[1, 0, 0, 0, 0, 1], [1, 0, 0, 0, 0, 1], [2, 1, 1, 1, 1, 2]],
    ),
]


class TestToldByHand(unittest.TestCase):
    def test_by_hand(self):
        for label, grid, cells, wanted in BY_HAND:
            with self.subTest(label):
                self.assertEqual(numbers(grid, cells), wanted)

    def test_the_interface_names_its_arguments(self):
        self.assertEqual(list(inspect.signature(numbers).parameters), ["grid", "cells"])
        self.assertEqual(numbers(grid=(1, 2), cells=[1]), [[1, 4]])


class TestToldByReckoning(unittest.TestCase):
    def test_many_lists(self):
        for grid, cells in many_lists():
            self.assertEqual(numbers(grid, cells), counted(grid, cells), (grid, cells))


class TestNewAndPlain(unittest.TestCase):
    def test_a_list_of_lists_of_whole_numbers(self):
        for grid in all_grids():
            told = numbers(grid, [0])
            self.assertIs(type(told), list)
            self.assertEqual(len(told), grid[0])
            for row in told:
                self.assertIs(type(row), list)
                self.assertEqual(len(row), grid[1])
                self.assertEqual({type(many) for many in row}, {int})

    def test_no_list_is_told_twice(self):
        for grid, cells in (((3, 3), [4]), ((6, 6), list(range(36))), ((1, 1), [0])):
            once, again = numbers(grid, cells), numbers(grid, cells)
            self.assertIsNot(once, again)
            self.assertEqual(once, again)
            lists = once + again
            self.assertEqual(len({id(row) for row in lists}), len(lists))

    def test_changing_what_was_told_changes_nothing_told_later(self):
        once = numbers((3, 3), [4])
        once[0][1] = 9
        once[2].append(9)
        del once[1]
        self.assertEqual(numbers((3, 3), [4]), [[0, 1, 0], [1, 4, 1], [0, 1, 0]])


class TestHandedIn(unittest.TestCase):
    def test_the_cells_stay_as_they_were(self):
        for label, grid, cells, wanted in BY_HAND:
            with self.subTest(label):
                handed = list(cells)
                numbers(grid, handed)
                self.assertEqual(handed, cells)

    def test_the_cells_may_be_changed_behind(self):
        cells = [0, 1]
        told = numbers((2, 2), cells)
        cells.append(3)
        cells[0] = 2
        self.assertEqual(told, [[3, 3], [1, 1]])
        self.assertEqual(numbers((2, 2), [0, 1]), [[3, 3], [1, 1]])

    def test_the_same_list_changed_is_told_anew(self):
        cells = [0]
        self.assertEqual(numbers((2, 2), cells), [[4, 1], [1, 0]])
        cells[0] = 3
        self.assertEqual(numbers((2, 2), cells), [[0, 1], [1, 4]])

    def test_nothing_handed_in_is_kept(self):
        grid, cells = tuple([2, 3]), [1, 2]
        before = sys.getrefcount(grid), sys.getrefcount(cells)
        told = numbers(grid, cells)
        self.assertEqual((sys.getrefcount(grid), sys.getrefcount(cells)), before)
        self.assertEqual(told, [[1, 3, 3], [0, 1, 1]])


if __name__ == "__main__":
    unittest.main()
