"""numbers(grid, cells): what is refused, and as what (points 1 and 2)."""

import unittest

from sidering.errors import BadCells, BadGrid
from sidering.grids import numbers
from strange import GREAT, no_numbers

NO_LENGTHS = [
    ("0", 0),
    ("7", 7),
    ("8", 8),
    ("36", 36),
    ("-1", -1),
    ("-6", -6),
    ("very great", GREAT),
    ("far below 0", -GREAT),
]


def no_grids():
    """Pairs of a label and a value that is no grid."""
    listed = no_numbers()
    listed += [("alone: " + label, value) for label, value in NO_LENGTHS]
    listed += [
        ("a number", 3),
        ("list", [3, 3]),
        ("three", (3, 3, 3)),
        ("pair of pairs", ((3, 3), (3, 3))),
        ("pair in a tuple", ((3, 3),)),
        ("many", (3,) * 1000),
    ]
    for label, value in NO_LENGTHS + no_numbers():
        listed.append(("rows: " + label, (value, 3)))
        listed.append(("columns: " + label, (3, value)))
        listed.append(("both: " + label, (value, value)))
    return listed


def no_lists():
    """Pairs of a label and a value that is no list with anything in it."""
    listed = [pair for pair in no_numbers() if pair[0] not in ("list of one", "list of two", "list in itself")]
    listed += [("tuple of cells", (0, 1)), ("a number", 0), ("very great", GREAT), ("text of cells", "01")]
    return listed


# Of a grid of three by three.
NO_RISING = [
    ("empty", []),
    ("falling", [1, 0]),
    ("falling at the end", [0, 1, 2, 4, 3]),
    ("falling at the start", [5, 0, 6, 7]),
    ("twice", [0, 0]),
    ("twice at the end", [0, 3, 8, 8]),
    ("twice in the middle", [0, 3, 3, 8]),
    ("back to the first", [0, 1, 0]),
    ("below 0", [-1]),
    ("below 0 first", [-1, 0, 1]),
    ("all below 0", [-3, -2, -1]),
    ("below 0 last", [0, 1, -1]),
    ("far below 0", [-GREAT, 0]),
    ("beyond", [9]),
    ("beyond last", [0, 1, 9]),
    ("beyond, all cells before", [0, 1, 2, 3, 4, 5, 6, 7, 8, 9]),
    ("beyond first", [9, 0]),
    ("beyond, two", [9, 10]),
    ("far beyond", [0, GREAT]),
]


def no_cells():
    """Pairs of a label and a value that is no list of cells of a grid of three by three."""
    listed = no_lists() + NO_RISING
    for label, value in no_numbers():
        listed.append(("alone: " + label, [value]))
        listed.append(("first: " + label, [value, 2, 5]))
        listed.append(("middle: " + label, [0, value, 5]))
        listed.append(("last: " + label, [0, 2, value]))
        listed.append(("behind all: " + label, [0, 1, 2, 3, 4, 5, 6, 7, 8, value]))
        listed.append(("throughout: " + label, [value, value]))
    return listed


class TestRefusals(unittest.TestCase):
    # The first failure ends a test: a program that took a very great grid would not come to an end.
    def refuses(self, kind, grid, cells, label=None):
        with self.assertRaises(Exception, msg=label) as caught:
            numbers(grid, cells)
        self.assertIs(type(caught.exception), kind, label)

    def test_no_grid(self):
        for label, grid in no_grids():
            self.refuses(BadGrid, grid, [0], label)

    def test_no_cells(self):
        for label, cells in no_cells():
            self.refuses(BadCells, (3, 3), cells, label)

    def test_both_wrong(self):
        for label, grid in no_grids():
            for other, cells in NO_RISING + no_lists() + [("no number", [None]), ("True", [True])]:
                self.refuses(BadGrid, grid, cells, label + ", " + other)

    def test_the_first_cell_beyond_each_grid(self):
        for rows in range(1, 7):
            for columns in range(1, 7):
                grid, many = (rows, columns), rows * columns
                self.assertEqual(numbers(grid, [many - 1])[-1][-1], 4, grid)
                self.refuses(BadCells, grid, [many], grid)
                self.refuses(BadCells, grid, list(range(many + 1)), grid)

    def test_true_and_false_as_cells_or_lengths_where_1_and_0_would_do(self):
        self.assertEqual(numbers((1, 2), [0, 1]), [[3, 3]])
        self.refuses(BadCells, (1, 2), [False, 1])
        self.refuses(BadCells, (1, 2), [0, True])
        self.refuses(BadGrid, (True, 2), [0, 1])
        self.refuses(BadGrid, (2, True), [0, 1])

    def test_a_refusal_changes_nothing(self):
        cells = [0, 2, 1]
        self.refuses(BadCells, (3, 3), cells)
        self.assertEqual(cells, [0, 2, 1])
        self.assertEqual(numbers((3, 3), [0, 2]), [[4, 2, 4], [1, 0, 1], [0, 0, 0]])


if __name__ == "__main__":
    unittest.main()
