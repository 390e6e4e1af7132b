"""What is refused where a grid, or a grid and cells, are handed in, and as what (points 1, 2, 6 and 7)."""

import unittest

from reckoning import all_grids
from sidering.errors import BadCells, BadGrid, NoRing
from sidering.grids import numbers
from sidering.rings import judged, rings, walk
from strange import GREAT, no_numbers

NO_LENGTHS = [
    ("0", 0),
    ("7", 7),
    ("8", 8),
    ("36", 36),
    ("-1", -1),
    ("-6", -6),
    ("very great", GREAT),
    ("far below 0", -GREAT),
]


def no_grids():
    """Pairs of a label and a value that is no grid."""
    listed = no_numbers()
    listed += [("alone: " + label, value) for label, value in NO_LENGTHS]
    listed += [
        ("a number", 3),
        ("list", [3, 3]),
        ("three", (3, 3, 3)),
        ("pair of pairs", ((3, 3), (3, 3))),
        ("pair in a tuple", ((3, 3),)),
        ("many", (3,) * 1000),
    ]
    for label, value in NO_LENGTHS + no_numbers():
        listed.append(("rows: " + label, (value, 3)))
        listed.append(("columns: " + label, (3, value)))
        listed.append(("both: " + label, (value, value)))
    return listed


def no_lists():
    """Pairs of a label and a value that is no list with anything in it."""
    listed = [pair for pair in no_numbers() if pair[0] not in ("list of one", "list of two", "list in itself")]
    listed += [("tuple of cells", (0, 1)), ("a number", 0), ("very great", GREAT), ("text of cells", "01")]
    return listed


# Of a grid of three by three.
NO_RISING = [
    ("empty", []),
    ("falling", [1, 0]),
    ("falling at the end", [0, 1, 2, 4, 3]),
    ("falling at the start", [5, 0, 6, 7]),
    ("twice", [0, 0]),
    ("twice at the end", [0, 3, 8, 8]),
    ("twice in the middle", [0, 3, 3, 8]),
    ("back to the first", [0, 1, 0]),
    ("below 0", [-1]),
    ("below 0 first", [-1, 0, 1]),
    ("all below 0", [-3, -2, -1]),
    ("below 0 last", [0, 1, -1]),
    ("far below 0", [-GREAT, 0]),
    ("beyond", [9]),
    ("beyond last", [0, 1, 9]),
    ("beyond, all cells before", [0, 1, 2, 3, 4, 5, 6, 7, 8, 9]),
    ("beyond first", [9, 0]),
    ("beyond, two", [9, 10]),
    ("far beyond", [0, GREAT]),
]


def no_cells():
    """Pairs of a label and a value that is no list of cells of a grid of three by three."""
    listed = no_lists() + NO_RISING
    for label, value in no_numbers():
        listed.append(("alone: " + label, [value]))
        listed.append(("first: " + label, [value, 2, 5]))
        listed.append(("middle: " + label, [0, value, 5]))
        listed.append(("last: " + label, [0, 2, value]))
        listed.append(("behind all: " + label, [0, 1, 2, 3, 4, 5, 6, 7, 8, value]))
        listed.append(("throughout: " + label, [value, value]))
    return listed


class Refusals(unittest.TestCase):
    # The first failure ends a test: a program that took a very great grid would not come to an end.
    def refuses(self, kind, door, *handed, label=None):
        with self.assertRaises(Exception, msg=(door.__name__, label)) as caught:
            door(*handed)
        self.assertIs(type(caught.exception), kind, (door.__name__, label))


class TestGridAndCells(Refusals):
    DOORS = (numbers, judged, walk)

    def test_no_grid(self):
        for door in self.DOORS:
            for label, grid in no_grids():
                self.refuses(BadGrid, door, grid, [0], label=label)

    def test_no_cells(self):
        for door in self.DOORS:
            for label, cells in no_cells():
                self.refuses(BadCells, door, (3, 3), cells, label=label)

    def test_both_wrong(self):
        for door in self.DOORS:
            for label, grid in no_grids():
                for other, cells in NO_RISING + no_lists() + [("no number", [None]), ("True", [True])]:
                    self.refuses(BadGrid, door, grid, cells, label=label + ", " + other)

    def test_the_first_cell_beyond_each_grid(self):
        for door in self.DOORS:
            for grid in all_grids():
                many = grid[0] * grid[1]
                door(grid, [many - 1])
                self.refuses(BadCells, door, grid, [many], label=grid)
                self.refuses(BadCells, door, grid, list(range(many + 1)), label=grid)

    def test_true_and_false_as_cells_or_lengths_where_1_and_0_would_do(self):
        for door in self.DOORS:
            door((1, 2), [0, 1])
            self.refuses(BadCells, door, (1, 2), [False, 1])
            self.refuses(BadCells, door, (1, 2), [0, True])
            self.refuses(BadGrid, door, (True, 2), [0, 1])
            self.refuses(BadGrid, door, (2, True), [0, 1])

    def test_a_refusal_changes_nothing(self):
        for door in self.DOORS:
            cells = [0, 2, 1]
            before = repr(door((3, 3), [0, 1]))
            self.refuses(BadCells, door, (3, 3), cells)
            self.assertEqual(cells, [0, 2, 1])
            if door != judged:
                self.assertEqual(repr(door((3, 3), [0, 1])), before)


class TestNoRingComesLast(Refusals):
    def test_no_ring(self):
        self.refuses(NoRing, walk, (3, 3), [0, 2])
        self.refuses(NoRing, walk, (3, 3), [0, 1, 2, 3, 5, 6, 7, 8])
        self.refuses(NoRing, walk, (1, 6), [0, 5])
        self.refuses(NoRing, walk, (6, 6), [0, 35])

    def test_behind_the_others(self):
        for cells in ([0, 2, 2], [2, 0], [0, 2, 9], [-1, 1], [0, 2, None], (0, 2)):
            self.refuses(BadCells, walk, (3, 3), cells)
        for grid in ((7, 3), (3, 0), [3, 3], None):
            self.refuses(BadGrid, walk, grid, [0, 2])


class TestGridAlone(Refusals):
    def test_no_grid(self):
        for label, grid in no_grids():
            self.refuses(BadGrid, rings, grid, label=label)

    def test_more_than_nine_cells(self):
        # Those of few cells first: of more a program that took them would list without end.
        for grid in all_grids():
            if grid[0] * grid[1] > 9:
                self.refuses(BadGrid, rings, grid, label=grid)

    def test_nine_cells_are_not_too_many(self):
        self.assertEqual(rings((3, 3))[0], [0])
        self.assertEqual(rings((2, 4))[0], [0])
        self.assertEqual(rings((4, 2))[-1], [7])


if __name__ == "__main__":
    unittest.main()
