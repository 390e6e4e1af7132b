"""judged(grid, cells): Ring, Split or Hole (points 4 and 5)."""

import inspect
import unittest

from reckoning import drawn, enclosed, is_ring, many_lists, unjoined
from sidering.answers import Hole, Ring, Split
from sidering.rings import judged

RINGS = [
    ("one cell in all", "#"),
    ("one cell in the middle", "... .#. ..."),
    ("one cell at a corner", "...... ...... ...... ...... ...... .....#"),
    ("a row of all", "######"),
    ("a row of some", ".####."),
    ("a column of all", "# # # # # #"),
    ("all of two by two", "## ##"),
    ("three of two by two", "## #."),
    ("all but the middle of an edge", "### #.. ###"),
    ("all but a corner", "### ### ##."),
    ("all of six by six", "###### ###### ###### ###### ###### ######"),
    ("outer ones, but for one", "###### #....# #....# #....# #....# ####.#"),
    ("comb", "###### #.#.#. #.#.#. #.#.#. #.#.#. #.#.#."),
    ("comb from below", ".#.#.# .#.#.# .#.#.# .#.#.# .#.#.# ######"),
    ("comb to the right", "###### #..... ###### #..... ###### #....."),
    ("two combs back to back", "#.#.#. #.#.#. ###### ###### .#.#.# .#.#.#"),
    ("winding", "###### .....# ###### #..... ###### .....#"),
    ("spiral", "###### .....# ####.# #..#.# #....# ######"),
    ("spiral to the middle", "###### #..... #.#### #.##.# #....# ######"),
    ("steps", "##.... .##... ..##.. ...##. ....## .....#"),
    ("cross", "..##.. ..##.. ###### ###### ..##.. ..##.."),
    ("away from the edge", "...... .####. .#..#. .#..#. .#.##. ......"),
]

SPLITS = [
    ("both ends of a row", "#....#"),
    ("one between two in a row", "#.#"),
    ("both ends of a column", "# . . . . #"),
    ("meeting at a point", "#. .#"),
    ("meeting at the point otherwise", ".# #."),
    ("end of a row and start of the next", "...# #..."),
    ("corners", "#.# ... #.#"),
    ("rows", "###### ...... ###### ...... ###### ......"),
    ("columns", "#.#.#. #.#.#. #.#.#. #.#.#. #.#.#. #.#.#."),
    ("squares that meet at points", "##..## ##..## ..##.. ..##.. ##..## ##..##"),
    ("a line aslant", "#..... .#.... ..#... ...#.. ....#. .....#"),
    ("within a bay", "###### #....# #.##.# #.##.# #....# ####.#"),
    ("one of many alone", "###### ###### ###### ###### ####.. ####.#"),
]

INNER = [7, 8, 9, 10, 13, 14, 15, 16, 19, 20, 21, 22, 25, 26, 27, 28]

HOLES = [
    ("one shut in", "### #.# ###", [4]),
    ("outer ones", "###### #....# #....# #....# #....# ######", INNER),
    ("outer ones, but for a corner", "###### #....# #....# #....# #....# #####.", INNER),
    ("one of six by six", "###### ###### ###### ###### ####.# ######", [28]),
    ("two that are beside one another", "#### #..# ####", [5, 6]),
    ("two apart", "##### #.#.# #####", [6, 8]),
    ("two that meet at a point", "#### #.## ##.# ####", [5, 10]),
    ("shut in at a corner only", "### #.# ##.", [4]),
    ("shut in at another corner only", ".## #.# ###", [4]),
    ("shut in at a corner only, and open else", "###### #.##.. ##.#.. #..#.. ####.. ......", [7, 14, 19, 20]),
    ("cells that meet at a point round it", "#### #..# #.## ###.", [5, 6, 9]),
    ("open at the edge besides", "###### #.##.. ####.. ##.### ##..## ######", [7, 20, 26, 27]),
    ("away from the edge", "...... .####. .#..#. .#..#. .####. ......", [14, 15, 20, 21]),
    ("spiral that closes", "###### #....# #.##.# #.#..# #.#### ###...", [7, 8, 9, 10, 13, 16, 19, 21, 22, 25]),
]

BOTH = [
    ("every other one", "#.#.#. .#.#.# #.#.#. .#.#.# #.#.#. .#.#.#"),
    ("a ring of cells that meet at points only", ".#. #.# .#."),
    ("one within a hole", "##### #...# #.#.# #...# #####"),
    ("a hole, and one apart", "###.#. #.#... ###... ...... ...... .....#"),
    ("two holes, two groups that meet at a point", "###... #.#... ###... ...### ...#.# ...###"),
    ("outer ones round a block", "###### #....# #.##.# #.##.# #....# ######"),
]


class TestByHand(unittest.TestCase):
    def test_rings(self):
        for label, text in RINGS:
            grid, cells = drawn(text)
            self.assertIs(type(judged(grid, cells)), Ring, label)
            self.assertIs(judged(grid, cells).shows(grid, cells), True, label)

    def test_splits(self):
        for label, text in SPLITS:
            grid, cells = drawn(text)
            answer = judged(grid, cells)
            self.assertIs(type(answer), Split, label)
            self.assertIn((answer.one, answer.other), unjoined(grid, cells), label)
            self.assertEqual(enclosed(grid, cells), set(), label)
            self.assertIs(answer.shows(grid, cells), True, label)

    def test_holes(self):
        for label, text, wanted in HOLES:
            grid, cells = drawn(text)
            answer = judged(grid, cells)
            self.assertIs(type(answer), Hole, label)
            self.assertIn(answer.cell, wanted, label)
            self.assertEqual(enclosed(grid, cells), set(wanted), label)
            self.assertEqual(unjoined(grid, cells), set(), label)
            self.assertIs(answer.shows(grid, cells), True, label)

    def test_either_of_two(self):
        for label, text in BOTH:
            grid, cells = drawn(text)
            answer = judged(grid, cells)
            self.assertIn(type(answer), (Split, Hole), label)
            self.assertTrue(unjoined(grid, cells) and enclosed(grid, cells), label)
            self.assertIs(answer.shows(grid, cells), True, label)

    def test_the_only_pair(self):
        answer = judged((1, 6), [0, 5])
        self.assertEqual({answer.one, answer.other}, {0, 5})

    def test_the_interface_names_its_arguments(self):
        self.assertEqual(list(inspect.signature(judged).parameters), ["grid", "cells"])
        self.assertIs(type(judged(grid=(1, 2), cells=[1])), Ring)


class TestByReckoning(unittest.TestCase):
    def compare(self, grid, cells):
        answer = judged(grid, cells)
        place = (grid, cells)
        pairs, holes = unjoined(grid, cells), enclosed(grid, cells)
        self.assertEqual(is_ring(grid, cells), not pairs and not holes, place)
        if not pairs and not holes:
            self.assertIs(type(answer), Ring, place)
            self.assertEqual(vars(answer), {}, place)
        elif type(answer) is Split:
            self.assertIn((answer.one, answer.other), pairs, place)
            self.assertEqual([type(value) for value in vars(answer).values()], [int, int], place)
        else:
            self.assertIs(type(answer), Hole, place)
            self.assertIn(answer.cell, holes, place)
            self.assertEqual([type(value) for value in vars(answer).values()], [int], place)
        self.assertIs(answer.shows(grid, cells), True, place)

    def test_many_lists(self):
        for grid, cells in many_lists():
            self.compare(grid, cells)


class TestHandedIn(unittest.TestCase):
    def test_the_cells_stay_as_they_were(self):
        for text in ("### #.. ###", "#.# ... #.#", "### #.# ###"):
            grid, cells = drawn(text)
            handed = list(cells)
            judged(grid, handed)
            self.assertEqual(handed, cells)

    def test_the_cells_may_be_changed_behind(self):
        cells = [0, 1, 2, 3, 5, 6, 7, 8]
        hole = judged((3, 3), cells)
        cells.clear()
        self.assertEqual(hole.cell, 4)
        self.assertTrue(hole.shows((3, 3), [0, 1, 2, 3, 5, 6, 7, 8]))
        cells.extend([0, 8])
        split = judged((3, 3), cells)
        cells.append(4)
        self.assertEqual({split.one, split.other}, {0, 8})

    def test_an_answer_is_new_each_time(self):
        for text in ("### #.. ###", "#.# ... #.#", "### #.# ###"):
            grid, cells = drawn(text)
            once, again = judged(grid, cells), judged(grid, cells)
            self.assertIsNot(once, again)

    def test_an_answer_may_be_changed(self):
        once = judged((1, 3), [0, 2])
        once.one = once.other = 1
        self.assertEqual({judged((1, 3), [0, 2]).one, judged((1, 3), [0, 2]).other}, {0, 2})


if __name__ == "__main__":
    unittest.main()
