"""fitting(clues) and told(clues): what is found by clues (points 8 and 9)."""

import copy
import inspect
import itertools
import sys
import unittest

from reckoning import agreeing, in_rows, ring_table, small_grids
from sidering.answers import Never, One, Two
from sidering.rings import fitting, rings, told

BY_HAND = [
    ("one cell, told", [[4]], [[0]]),
    ("one cell, not told", [[-1]], [[0]]),
    ("one cell, told wrongly", [[3]], []),
    ("one cell, none of its sides", [[0]], []),
    ("row, first", [[4, 1, 0]], [[0]]),
    ("row, all", [[3, 2, 3]], [[0, 1, 2]]),
    ("row, one number of several", [[-1, 1, -1]], [[0], [2]]),
    ("row, two groups would fit", [[4, 2, 4]], []),
    ("row, nothing told", [[-1, -1]], [[0], [0, 1], [1]]),
    ("row of six, middle", [[-1, -1, 4, -1, -1, -1]], [[2]]),
    ("row of six, nothing at both ends", [[0, -1, -1, -1, -1, 0]], [[2], [2, 3], [3]]),
    ("column, first", [[4], [1], [0]], [[0]]),
    ("column, nothing told", [[-1], [-1]], [[0], [0, 1], [1]]),
    ("column of six", [[-1], [-1], [2], [2], [-1], [1]], [[0, 1, 2, 3, 4], [1, 2, 3, 4]]),
    ("two by two, all", [[2, 2], [2, 2]], [[0, 1, 2, 3]]),
    ("two by two, three", [[2, 3], [3, 2]], [[0, 1, 2], [1, 2, 3]]),
    ("two by two, meeting at a point would fit", [[4, 2], [2, 4]], []),
    ("two by two, two of a row", [[3, 3], [1, 1]], [[0, 1]]),
    ("two by two, 4 at the last", [[-1, -1], [-1, 4]], [[3]]),
    ("two by two, 0 at the first", [[0, -1], [-1, -1]], [[3]]),
    ("two by two, 0 throughout", [[0, 0], [0, 0]], []),
    ("wide, by its middle", [[-1, 4, -1], [-1, -1, -1]], [[1]]),
    ("high, by its middle", [[-1, -1], [4, -1], [-1, -1]], [[2]]),
    ("three by three, the middle", [[0, 1, 0], [1, 4, 1], [0, 1, 0]], [[4]]),
    ("three by three, 4 in the middle", [[-1, -1, -1], [-1, 4, -1], [-1, -1, -1]], [[4]]),
    ("three by three, round one would fit", [[2, 2, 2], [2, 4, 2], [2, 2, 2]], []),
    ("three by three, all", [[2, 1, 2], [1, 0, 1], [2, 1, 2]], [[0, 1, 2, 3, 4, 5, 6, 7, 8]]),
    ("three by three, corners 0", [[0, -1, 0], [-1, -1, -1], [0, -1, 0]], [[4]]),
    ("three by three, a cross", [[2, 3, 2], [3, 0, 3], [2, 3, 2]], [[1, 3, 4, 5, 7]]),
]


def masked(flat, pattern):
    """The numbers, those not told where the pattern, used again and again, has a 0."""
    return [clue if kept else -1 for clue, kept in zip(flat, itertools.cycle(pattern))]


def clues_of_rings(grid):
    """Clues of the grid's rings: all told, some told, one of them wrong."""
    for at, (cells, flat) in enumerate(ring_table(grid)):
        yield in_rows(grid, flat)
        yield in_rows(grid, masked(flat, (1, 0)))
        if at % 3 == 0:
            yield in_rows(grid, masked(flat, (0, 1, 0, 0)))
            yield in_rows(grid, masked(flat, (1, 1, 0, 0, 0)))
            place = at % len(flat)
            yield in_rows(grid, flat[:place] + ((flat[place] + 1) % 5,) + flat[place + 1:])


class TestByHand(unittest.TestCase):
    def test_fitting(self):
        for label, clues, wanted in BY_HAND:
            with self.subTest(label):
                self.assertEqual(fitting(clues), wanted)

    def test_told(self):
        for label, clues, wanted in BY_HAND:
            answer = told(clues)
            with self.subTest(label):
                if len(wanted) == 0:
                    self.assertIs(type(answer), Never)
                elif len(wanted) == 1:
                    self.assertIs(type(answer), One)
                    self.assertEqual(answer.cells, wanted[0])
                else:
                    self.assertIs(type(answer), Two)
                    self.assertNotEqual(answer.one, answer.other)
                    self.assertIn(answer.one, wanted)
                    self.assertIn(answer.other, wanted)

    def test_the_interface_names_its_argument(self):
        self.assertEqual(list(inspect.signature(fitting).parameters), ["clues"])
        self.assertEqual(list(inspect.signature(told).parameters), ["clues"])
        self.assertEqual(fitting(clues=[[4]]), [[0]])
        self.assertEqual(told(clues=[[4]]).cells, [0])

    def test_nothing_told_all_rings_fit(self):
        for grid in small_grids():
            clues = in_rows(grid, [-1] * (grid[0] * grid[1]))
            self.assertEqual(fitting(clues), rings(grid), grid)
            self.assertIs(type(told(clues)), One if grid == (1, 1) else Two, grid)


class TestByReckoning(unittest.TestCase):
    def compare(self, clues):
        wanted = agreeing(clues)
        found = fitting(clues)
        self.assertEqual(found, wanted, clues)
        answer = told(clues)
        if len(wanted) == 0:
            self.assertIs(type(answer), Never, clues)
            self.assertEqual(vars(answer), {}, clues)
        elif len(wanted) == 1:
            self.assertIs(type(answer), One, clues)
            self.assertEqual(vars(answer), {"cells": wanted[0]}, clues)
        else:
            self.assertIs(type(answer), Two, clues)
            self.assertEqual(set(vars(answer)), {"one", "other"}, clues)
            self.assertIn(answer.one, wanted, clues)
            self.assertIn(answer.other, wanted, clues)
            self.assertNotEqual(answer.one, answer.other, clues)
        self.assertIs(answer.shows(clues), True, clues)

    def test_all_clues_of_the_smallest_grids(self):
        for grid in small_grids(4):
            for flat in itertools.product(range(-1, 5), repeat=grid[0] * grid[1]):
                self.compare(in_rows(grid, flat))

    def test_clues_of_the_rings_of_greater_grids(self):
        for grid in small_grids():
            if grid[0] * grid[1] > 4:
                for clues in clues_of_rings(grid):
                    self.compare(clues)

    def test_one_number_told(self):
        for grid in small_grids():
            many = grid[0] * grid[1]
            for place, clue in itertools.product(range(many), range(5)):
                self.compare(in_rows(grid, [clue if at == place else -1 for at in range(many)]))


class TestNewAndHandedIn(unittest.TestCase):
    CLUES = [
        [[2, 3], [3, 2]],
        [[3, 3], [1, 1]],
        [[4, 2], [2, 4]],
        [[-1, -1, -1], [-1, -1, -1], [-1, -1, -1]],
        [[0, 1, 0], [1, 4, 1], [0, 1, 0]],
    ]

    def test_the_clues_stay_as_they_were(self):
        for clues in self.CLUES:
            handed = copy.deepcopy(clues)
            rows = list(handed)
            fitting(handed)
            told(handed).shows(handed)
            self.assertEqual(handed, clues)
            for row, same in zip(handed, rows):
                self.assertIs(row, same)

    def test_the_clues_are_not_kept(self):
        for clues in self.CLUES:
            handed = copy.deepcopy(clues)
            row = handed[0]
            before = sys.getrefcount(handed), sys.getrefcount(row)
            found, answer = fitting(handed), told(handed)
            answer.shows(handed)
            self.assertEqual((sys.getrefcount(handed), sys.getrefcount(row)), before)
            fields = copy.deepcopy(vars(answer))
            row[0] = 9
            handed.clear()
            self.assertEqual(found, agreeing(clues))
            self.assertEqual(vars(answer), fields)
            self.assertTrue(answer.shows(clues))

    def test_the_same_clues_changed_are_told_anew(self):
        clues = [[4, 1]]
        self.assertEqual(fitting(clues), [[0]])
        clues[0].reverse()
        self.assertEqual(fitting(clues), [[1]])
        self.assertEqual(told(clues).cells, [1])
        clues[0][0] = 2
        self.assertIs(type(told(clues)), Never)
        clues[0] = [-1]
        self.assertEqual(told(clues).cells, [0])

    def test_one_list_as_several_rows(self):
        row = [2, 2]
        self.assertEqual(fitting([row, row]), [[0, 1, 2, 3]])
        self.assertEqual(told([row, row]).cells, [0, 1, 2, 3])

    def test_lists_of_whole_numbers(self):
        for clues in self.CLUES:
            found = fitting(clues)
            self.assertIs(type(found), list)
            for cells in found + list(vars(told(clues)).values()):
                self.assertIs(type(cells), list)
                self.assertEqual({type(cell) for cell in cells}, {int})

    def test_what_fitting_tells_may_be_changed(self):
        for clues in self.CLUES:
            once, again = fitting(clues), fitting(clues)
            lists = once + again
            self.assertEqual(len({id(cells) for cells in lists}), len(lists))
            for cells in once:
                cells.append(99)
            once.append([99])
            self.assertEqual(again, agreeing(clues))
            self.assertEqual(fitting(clues), agreeing(clues))

    def test_fields_of_answers_may_be_changed(self):
        once = told([[3, 3], [1, 1]])
        once.cells.append(3)
        self.assertEqual(told([[3, 3], [1, 1]]).cells, [0, 1])
        once = told([[2, 3], [3, 2]])
        self.assertIsNot(once.one, once.other)
        once.one.clear()
        once.other.append(9)
        again = told([[2, 3], [3, 2]])
        self.assertEqual(sorted([again.one, again.other]), [[0, 1, 2], [1, 2, 3]])


if __name__ == "__main__":
    unittest.main()
