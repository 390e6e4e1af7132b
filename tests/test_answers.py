"""The answers: their classes and fields, and what shows tells (points 5 and 9)."""

import inspect
import itertools
import unittest

from reckoning import agreeing, all_lists, drawn, enclosed, in_rows, is_ring, small_grids, unjoined
from sidering.answers import Answer, Hole, Never, One, Ring, Split, Two
from sidering.rings import told
from strange import GREAT

# Each class with what it is made of and what its shows is asked of.
CLASSES = [
    (Ring, [], ["grid", "cells"]),
    (Split, ["one", "other"], ["grid", "cells"]),
    (Hole, ["cell"], ["grid", "cells"]),
    (One, ["cells"], ["clues"]),
    (Two, ["one", "other"], ["clues"]),
    (Never, [], ["clues"]),
]

FAR = [-GREAT, -1000, -1, GREAT]


class TestClasses(unittest.TestCase):
    def test_straight_under_answer(self):
        self.assertEqual(Answer.__bases__, (object,))
        for kind, fields, asked in CLASSES:
            self.assertEqual(kind.__bases__, (Answer,), kind)
            self.assertEqual(kind.__module__, "sidering.answers")

    def test_arguments(self):
        for kind, fields, asked in CLASSES:
            self.assertEqual(list(inspect.signature(kind).parameters), fields, kind)
            # In the class itself, not only in one above it.
            self.assertIn("shows", vars(kind), kind)
            self.assertEqual(list(inspect.signature(kind.shows).parameters)[1:], asked, kind)

    def test_fields(self):
        self.assertEqual(vars(Ring()), {})
        self.assertEqual(vars(Never()), {})
        self.assertEqual(vars(Split(3, 5)), {"one": 3, "other": 5})
        self.assertEqual(vars(Split(other=5, one=3)), {"one": 3, "other": 5})
        self.assertEqual(vars(Hole(4)), {"cell": 4})
        self.assertEqual(vars(One([1, 2])), {"cells": [1, 2]})
        self.assertEqual(vars(Two([1], [2, 3])), {"one": [1], "other": [2, 3]})
        self.assertEqual(vars(Two(other=[1], one=[2, 3])), {"one": [2, 3], "other": [1]})

    def test_any_numbers_are_taken_as_they_are(self):
        for number in FAR:
            self.assertEqual(vars(Split(number, -number)), {"one": number, "other": -number})
            self.assertEqual(Hole(number).cell, number)
            self.assertEqual(One([number, number]).cells, [number, number])
            self.assertEqual(Two([], [number]).other, [number])

    def test_lists_are_copied(self):
        cells = [0, 1]
        one = One(cells)
        two = Two(cells, cells)
        for copied in (one.cells, two.one, two.other):
            self.assertIs(type(copied), list)
            self.assertIsNot(copied, cells)
        self.assertIsNot(two.one, two.other)
        cells.append(2)
        self.assertEqual([one.cells, two.one, two.other], [[0, 1], [0, 1], [0, 1]])
        two.one.clear()
        self.assertEqual([two.other, cells], [[0, 1], [0, 1, 2]])


class TestOfCells(unittest.TestCase):
    def test_ring(self):
        for text, wanted in (("#", True), ("## #.", True), ("#. .#", False), ("### #.# ###", False), ("#.#", False)):
            self.assertIs(Ring().shows(*drawn(text)), wanted, text)

    def test_split_by_hand(self):
        grid, cells = drawn("##.# ...# #...")
        self.assertEqual(cells, [0, 1, 3, 7, 8])
        for one, other, wanted in (
            (0, 3, True),
            (3, 0, True),
            (1, 7, True),
            (8, 1, True),
            (0, 8, True),
            (0, 1, False),
            (1, 0, False),
            (3, 7, False),
            (0, 0, False),
            (8, 8, False),
            (0, 2, False),
            (2, 0, False),
            (4, 5, False),
            (2, 2, False),
            (0, 12, False),
            (12, 0, False),
            (0, -1, False),
            (-1, 0, False),
            (-5, -4, False),
            (0, -4, False),
            (0, GREAT, False),
            (GREAT, 0, False),
            (-GREAT, 8, False),
            (GREAT, -GREAT, False),
        ):
            self.assertIs(Split(one, other).shows(grid, cells), wanted, (one, other))

    def test_hole_by_hand(self):
        grid, cells = drawn("####.. #..#.. ####.. #.#### ##.##. .#####")
        for cell, wanted in (
            (7, True),
            (8, True),
            (19, True),
            (26, True),
            (4, False),
            (5, False),
            (10, False),
            (16, False),
            (17, False),
            (29, False),
            (30, False),
            (0, False),
            (6, False),
            (35, False),
            (36, False),
            (-1, False),
            (-28, False),
            (-29, False),
            (7 + 36, False),
            (GREAT, False),
            (-GREAT, False),
        ):
            self.assertIs(Hole(cell).shows(grid, cells), wanted, cell)

    def test_a_ring_shows_neither_split_nor_hole(self):
        grid, cells = drawn("### #.. ###")
        for one in range(-1, 10):
            self.assertIs(Hole(one).shows(grid, cells), False)
            for other in range(-1, 10):
                self.assertIs(Split(one, other).shows(grid, cells), False)

    def test_both_may_show(self):
        grid, cells = drawn("##### #...# #.#.# #...# #####")
        self.assertIs(Split(0, 12).shows(grid, cells), True)
        self.assertIs(Hole(6).shows(grid, cells), True)
        self.assertIs(Ring().shows(grid, cells), False)

    def test_all_lists_of_small_grids(self):
        for grid in small_grids():
            near = range(-1, grid[0] * grid[1] + 1)
            for cells in all_lists(grid):
                pairs, holes = unjoined(grid, cells), enclosed(grid, cells)
                self.assertIs(Ring().shows(grid, cells), is_ring(grid, cells), (grid, cells))
                for one in near:
                    self.assertIs(Hole(one).shows(grid, cells), one in holes, (grid, cells, one))
                for one, other in itertools.product(near, near):
                    shown = Split(one, other).shows(grid, cells)
                    self.assertIs(shown, (one, other) in pairs, (grid, cells, one, other))

    def test_by_the_fields_as_they_stand(self):
        grid, cells = drawn("#.# ... ###")
        split = Split(0, 2)
        self.assertIs(split.shows(grid, cells), True)
        split.other = 0
        self.assertIs(split.shows(grid, cells), False)
        split.other = 6
        self.assertIs(split.shows(grid, cells), True)
        split.one = 7
        self.assertIs(split.shows(grid, cells), False)
        split.one = 2
        self.assertIs(split.shows(grid, cells), True)
        grid, cells = drawn("### #.# ###")
        hole = Hole(4)
        hole.cell = 0
        self.assertIs(hole.shows(grid, cells), False)
        hole.cell = 4
        self.assertIs(hole.shows(grid, cells), True)

    def test_true_and_false_are_no_cells(self):
        self.assertIs(Split(0, 2).shows((1, 3), [0, 2]), True)
        self.assertIs(Split(False, 2).shows((1, 3), [0, 2]), False)
        self.assertIs(Split(3, True).shows((1, 4), [1, 3]), False)

    def test_asking_changes_nothing(self):
        for answer in (Ring(), Split(0, 8), Hole(4)):
            for cells in ([0, 1, 2, 3, 5, 6, 7, 8], [0, 8], [0]):
                handed, fields = list(cells), dict(vars(answer))
                answer.shows((3, 3), handed)
                self.assertEqual(handed, cells)
                self.assertEqual(vars(answer), fields)


# Lists that are never the cells of a ring that fits, whatever clues of three by three there are.
NO_RINGS = [
    [],
    [1, 0],
    [0, 0],
    [0, 1, 1],
    [0, 1, 0],
    [0, 2],
    [0, 4],
    [0, 1, 2, 3, 5, 6, 7, 8],
    [9],
    [0, 9],
    [-1],
    [-1, 0],
    [-9],
    [4, -1],
    [GREAT],
    [0, GREAT],
    [-GREAT, 0],
    [0] * 10000,
    list(range(10000)),
]


class TestOfClues(unittest.TestCase):
    MIDDLE = [[0, 1, 0], [1, 4, 1], [0, 1, 0]]
    OPEN = [[-1, -1, -1], [-1, -1, -1], [-1, -1, -1]]
    NONE = [[0, 0, 0], [0, 0, 0], [0, 0, 0]]

    def test_one_by_hand(self):
        self.assertIs(One([4]).shows(self.MIDDLE), True)
        self.assertIs(One([0]).shows(self.MIDDLE), False)
        self.assertIs(One([4, 5]).shows(self.MIDDLE), False)
        self.assertIs(One([4]).shows(self.OPEN), False)
        self.assertIs(One([4]).shows(self.NONE), False)
        self.assertIs(One([0]).shows([[-1]]), True)
        self.assertIs(One([0]).shows([[4]]), True)
        self.assertIs(One([0]).shows([[2]]), False)
        self.assertIs(One([0, 1, 2]).shows([[2, 3], [3, 2]]), False)
        self.assertIs(One([0, 3]).shows([[4, 2], [2, 4]]), False)

    def test_two_by_hand(self):
        clues = [[2, 3], [3, 2]]
        self.assertIs(Two([0, 1, 2], [1, 2, 3]).shows(clues), True)
        self.assertIs(Two([1, 2, 3], [0, 1, 2]).shows(clues), True)
        self.assertIs(Two([0, 1, 2], [0, 1, 2]).shows(clues), False)
        self.assertIs(Two([0, 1, 2], [2, 1, 0]).shows(clues), False)
        self.assertIs(Two([0, 1, 2], [0, 1, 2, 2]).shows(clues), False)
        self.assertIs(Two([0, 1, 2], [0, 1]).shows(clues), False)
        self.assertIs(Two([0], [1, 2, 3]).shows(clues), False)
        self.assertIs(Two([4], [4]).shows(self.MIDDLE), False)
        self.assertIs(Two([4], [5]).shows(self.MIDDLE), False)
        self.assertIs(Two([8], [0, 1]).shows(self.OPEN), True)
        self.assertIs(Two([0], [1]).shows(self.NONE), False)

    def test_never_by_hand(self):
        self.assertIs(Never().shows(self.NONE), True)
        self.assertIs(Never().shows(self.MIDDLE), False)
        self.assertIs(Never().shows(self.OPEN), False)
        self.assertIs(Never().shows([[4, 2], [2, 4]]), True)
        self.assertIs(Never().shows([[2, 3], [3, 2]]), False)

    def test_lists_that_are_no_rings(self):
        for clues in (self.MIDDLE, self.OPEN, self.NONE):
            for cells in NO_RINGS:
                self.assertIs(One(cells).shows(clues), False, cells[:10])
                self.assertIs(Two(cells, [4]).shows(clues), False, cells[:10])
                self.assertIs(Two([4], cells).shows(clues), False, cells[:10])
                self.assertIs(Two(cells, cells).shows(clues), False, cells[:10])

    def test_all_lists_for_some_clues(self):
        several = [[[-1, -1], [-1, -1]], [[2, -1], [-1, 2]], [[3, 3], [1, 1]]]
        for clues in several + [[[4, 2], [2, 4]], [[1, -1, -1]], [[-1]]]:
            wanted = agreeing(clues)
            lists = [[]] + all_lists((len(clues), len(clues[0])))
            for one in lists:
                self.assertIs(One(one).shows(clues), wanted == [one], (clues, one))
                for other in lists:
                    both = one in wanted and other in wanted and one != other
                    self.assertIs(Two(one, other).shows(clues), both, (clues, one, other))
            self.assertIs(Never().shows(clues), not wanted, clues)

    def test_all_clues_of_two_by_two(self):
        for flat in itertools.product(range(-1, 5), repeat=4):
            clues = in_rows((2, 2), flat)
            wanted = agreeing(clues)
            self.assertIs(Never().shows(clues), len(wanted) == 0, clues)
            for cells in ([0], [0, 1, 2], [0, 1, 2, 3]):
                self.assertIs(One(cells).shows(clues), wanted == [cells], clues)
            self.assertIs(Two([0, 1, 2], [3]).shows(clues), [0, 1, 2] in wanted and [3] in wanted, clues)

    def test_an_answer_to_other_clues(self):
        only = told([[3, 3], [1, 1]])
        self.assertIs(only.shows([[3, 3], [1, 1]]), True)
        self.assertIs(only.shows([[1, 1], [3, 3]]), False)
        self.assertIs(only.shows([[3, 3]]), True)
        self.assertIs(only.shows([[4]]), False)
        self.assertIs(only.shows([[-1, -1], [-1, -1]]), False)

    def test_by_the_fields_as_they_stand(self):
        only = One([4])
        only.cells.append(5)
        self.assertIs(only.shows(self.MIDDLE), False)
        only.cells.pop()
        self.assertIs(only.shows(self.MIDDLE), True)
        only.cells = [3]
        self.assertIs(only.shows(self.MIDDLE), False)
        only.cells = [4]
        self.assertIs(only.shows(self.MIDDLE), True)
        both = Two([0], [1])
        both.other[0] = 0
        self.assertIs(both.shows(self.OPEN), False)
        both.one = [8]
        self.assertIs(both.shows(self.OPEN), True)
        both.one = both.other
        self.assertIs(both.shows(self.OPEN), False)

    def test_a_list_changed_behind(self):
        cells, others = [4], [5]
        only, both = One(cells), Two(cells, others)
        cells.append(0)
        others.clear()
        self.assertIs(only.shows(self.MIDDLE), True)
        self.assertIs(both.shows(self.OPEN), True)

    def test_true_and_false_are_no_cells(self):
        self.assertIs(One([0, 1]).shows([[3, 3]]), True)
        self.assertIs(One([False, 1]).shows([[3, 3]]), False)
        self.assertIs(One([0, True]).shows([[3, 3]]), False)
        self.assertIs(Two([0], [True]).shows([[-1, -1]]), False)

    def test_asking_changes_nothing(self):
        for answer in (One([4]), Two([8], [0, 1]), Never()):
            for clues in (self.MIDDLE, self.OPEN, self.NONE):
                handed = [list(row) for row in clues]
                fields = {name: list(cells) for name, cells in vars(answer).items()}
                answer.shows(handed)
                self.assertEqual(handed, clues)
                self.assertEqual(vars(answer), fields)


if __name__ == "__main__":
    unittest.main()
