"""walk(grid, cells): the points on a ring, in turn (points 4 and 6)."""

import inspect
import sys
import unittest

from reckoning import drawn, is_ring, many_lists, rim
from sidering.errors import NoRing
from sidering.rings import walk

BY_HAND = [
    ("one cell in all", "#", [(0, 0), (0, 1), (1, 1), (1, 0)]),
    ("one cell in the middle", "... .#. ...", [(1, 1), (1, 2), (2, 2), (2, 1)]),
    ("row", "###", [(0, 0), (0, 1), (0, 2), (0, 3), (1, 3), (1, 2), (1, 1), (1, 0)]),
    ("column", "# # #", [(0, 0), (0, 1), (1, 1), (2, 1), (3, 1), (3, 0), (2, 0), (1, 0)]),
    ("in a row, not from its start", ".##.", [(0, 1), (0, 2), (0, 3), (1, 3), (1, 2), (1, 1)]),
    ("all of two by two", "## ##", [(0, 0), (0, 1), (0, 2), (1, 2), (2, 2), (2, 1), (2, 0), (1, 0)]),
    ("three of two by two", "## #.", [(0, 0), (0, 1), (0, 2), (1, 2), (1, 1), (2, 1), (2, 0), (1, 0)]),
    ("without the first", ".# ##", [(0, 1), (0, 2), (1, 2), (2, 2), (2, 1), (2, 0), (1, 0), (1, 1)]),
    ("without the third", "## .#", [(0, 0), (0, 1), (0, 2), (1, 2), (2, 2), (2, 1), (1, 1), (1, 0)]),
    (
        "first to the right, other columns below",
        "..# ### ...",
        [(0, 2), (0, 3), (1, 3), (2, 3), (2, 2), (2, 1), (2, 0), (1, 0), (1, 1), (1, 2)],
    ),
    (
        "two that stand up",
        "#.# ###",
        [(0, 0), (0, 1), (1, 1), (1, 2), (0, 2), (0, 3), (1, 3), (2, 3), (2, 2), (2, 1), (2, 0), (1, 0)],
    ),
    ("last of six by six", "...... ...... ...... ...... ...... .....#", [(5, 5), (5, 6), (6, 6), (6, 5)]),
]


class TestByHand(unittest.TestCase):
    def test_by_hand(self):
        for label, text, wanted in BY_HAND:
            with self.subTest(label):
                self.assertEqual(walk(*drawn(text)), wanted)

    def test_the_interface_names_its_arguments(self):
        self.assertEqual(list(inspect.signature(walk).parameters), ["grid", "cells"])
        self.assertEqual(walk(grid=(1, 1), cells=[0]), [(0, 0), (0, 1), (1, 1), (1, 0)])


class TestByReckoning(unittest.TestCase):
    def compare(self, grid, cells):
        place = (grid, cells)
        if not is_ring(grid, cells):
            with self.assertRaises(Exception, msg=place) as caught:
                walk(grid, cells)
            self.assertIs(type(caught.exception), NoRing, place)
            return
        points = walk(grid, cells)
        sides = rim(grid, cells)
        self.assertIs(type(points), list, place)
        for point in points:
            self.assertEqual([type(point), len(point)], [tuple, 2], place)
            self.assertEqual([type(value) for value in point], [int, int], place)
        self.assertEqual(len(set(points)), len(points), place)
        gone = [frozenset(pair) for pair in zip(points, points[1:] + points[:1])]
        self.assertEqual(len(gone), len(sides), place)
        self.assertEqual(set(gone), sides, place)
        self.assertEqual(points[0], min(points), place)
        self.assertEqual(points[1], (points[0][0], points[0][1] + 1), place)

    def test_many_lists(self):
        for grid, cells in many_lists():
            self.compare(grid, cells)

    def test_long_ways(self):
        for text in (
            "###### #.#.#. #.#.#. #.#.#. #.#.#. #.#.#.",
            "###### .....# ####.# #..#.# #....# ######",
            "###### .....# ###### #..... ###### .....#",
            "...... .####. .#..#. .#..#. .#.##. ......",
            "##.... .##... ..##.. ...##. ....## .....#",
        ):
            self.assertTrue(is_ring(*drawn(text)), text)
            self.compare(*drawn(text))


class TestNoRing(unittest.TestCase):
    def test_by_hand(self):
        for text in ("#.#", "#. .#", ".# #.", "### #.# ###", "### #.# ##.", "# . #", "##### #...# #.#.# #...# #####"):
            with self.assertRaises(Exception, msg=text) as caught:
                walk(*drawn(text))
            self.assertIs(type(caught.exception), NoRing, text)

    def test_a_refusal_changes_nothing(self):
        cells = [0, 2]
        with self.assertRaises(NoRing):
            walk((1, 3), cells)
        self.assertEqual(cells, [0, 2])
        self.assertEqual(walk((1, 3), [2]), [(0, 2), (0, 3), (1, 3), (1, 2)])


class TestNewAndHandedIn(unittest.TestCase):
    def test_a_new_list_each_time(self):
        once, again = walk((1, 1), [0]), walk((1, 1), [0])
        self.assertIsNot(once, again)
        once.append((9, 9))
        once[0] = None
        self.assertEqual(again, [(0, 0), (0, 1), (1, 1), (1, 0)])
        self.assertEqual(walk((1, 1), [0]), [(0, 0), (0, 1), (1, 1), (1, 0)])

    def test_the_cells_stay_as_they_were_and_are_not_kept(self):
        grid, cells = tuple([1, 3]), [1, 2]
        before = sys.getrefcount(grid), sys.getrefcount(cells)
        points = walk(grid, cells)
        self.assertEqual((sys.getrefcount(grid), sys.getrefcount(cells)), before)
        self.assertEqual(cells, [1, 2])
        cells.clear()
        self.assertEqual(points, [(0, 1), (0, 2), (0, 3), (1, 3), (1, 2), (1, 1)])


if __name__ == "__main__":
    unittest.main()
