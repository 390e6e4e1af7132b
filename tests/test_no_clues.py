"""What is refused as clues (points 1 and 8)."""

import copy
import itertools
import unittest

from sidering.errors import BadClues
from sidering.rings import fitting, told
from strange import GREAT, no_numbers

SHAPES = [(1, 1), (1, 2), (2, 1), (1, 6), (6, 1), (2, 2), (3, 2), (2, 4), (3, 3)]

NO_CLUE = [
    ("-2", -2),
    ("-3", -3),
    ("5", 5),
    ("6", 6),
    ("9", 9),
    ("255", 255),
    ("very great", GREAT),
    ("far below 0", -GREAT),
]


def untold(rows, columns):
    return [[-1] * columns for row in range(rows)]


def wrong_numbers():
    """Clues with one thing in them that is no clue, at each place, or throughout."""
    for (rows, columns), (label, value) in itertools.product(SHAPES, NO_CLUE + no_numbers()):
        for row, column in itertools.product(range(rows), range(columns)):
            clues = untold(rows, columns)
            clues[row][column] = value
            yield (label, rows, columns, row, column), clues
        yield (label, rows, columns, "throughout"), [[value] * columns for row in range(rows)]


def wrong_rows():
    """Clues with one row that is none, at each place."""
    values = [pair for pair in NO_CLUE + no_numbers() if pair[0] != "list of two"]
    values += [("a number", 1), ("tuple", (-1, -1)), ("text", "11"), ("range", range(2)), ("dict", {0: 1, 1: 1})]
    values += [("shorter", [1]), ("longer", [1, 1, 1]), ("much longer", [1] * 1000), ("a row in a row", [[1, 1]])]
    values += [("rows in a row", [[1, 1], [1, 1]])]
    for rows, (label, value) in itertools.product((2, 3, 4), values):
        for row in range(rows):
            clues = untold(rows, 2)
            clues[row] = value
            yield (label, rows, row), clues


WRONG_SHAPES = [
    ("empty", []),
    ("empty row", [[]]),
    ("empty rows", [[], []]),
    ("six empty rows", [[], [], [], [], [], []]),
    ("first row empty", [[], [1]]),
    ("last row empty", [[1], []]),
    ("first row shorter", [[1], [1, 1]]),
    ("last row shorter", [[1, 1], [1]]),
    ("middle row shorter", [[1, 1], [1], [1, 1]]),
    ("middle row longer", [[1], [1, 1], [1]]),
    ("unlike, as many as three by three", [[1, 1, 1], [1, 1], [1, 1, 1, 1]]),
    ("unlike, the first short", [[1], [1] * 6]),
    ("unlike, the first long", [[1] * 6, [1]]),
    ("seven columns", [[-1] * 7]),
    ("seven rows", [[-1]] * 7),
    ("eight columns", [[-1] * 8]),
    ("nine columns", [[-1] * 9]),
    ("nine rows", [[-1]] * 9),
    ("two by five", [[-1] * 5] * 2),
    ("five by two", [[-1] * 2] * 5),
    ("three by four", [[-1] * 4] * 3),
    ("four by three", [[-1] * 3] * 4),
    ("two by six", [[-1] * 6] * 2),
    ("six by two", [[-1] * 2] * 6),
    ("four by four", [[-1] * 4] * 4),
    ("six by six", [[-1] * 6] * 6),
    ("two by seven", [[-1] * 7] * 2),
    ("seven by two", [[-1] * 2] * 7),
    ("a thousand rows", [[-1]] * 1000),
    ("a thousand columns", [[-1] * 1000]),
    ("numbers without rows", [-1]),
    ("nine numbers without rows", [-1] * 9),
    ("rows in rows", [[[-1]]]),
    ("tuple of rows", ([-1], [-1])),
    ("list of tuples", [(-1,), (-1,)]),
    ("tuple of tuples", ((-1,), (-1,))),
    ("list of texts", ["1", "1"]),
    ("list of bytes", [b"\x01", b"\x01"]),
    ("list of dicts", [{0: 1}, {0: 1}]),
    ("dict of rows", {0: [-1], 1: [-1]}),
    ("a number", 4),
    ("very great", GREAT),
]


class TestNoClues(unittest.TestCase):
    # The first failure ends a test: a program that took very many cells would not come to an end.
    def refuses(self, label, clues):
        for door in (fitting, told):
            with self.assertRaises(Exception, msg=(door.__name__, label)) as caught:
                door(clues)
            self.assertIs(type(caught.exception), BadClues, (door.__name__, label))

    def test_clues_of_these_shapes_are_not_refused(self):
        for rows, columns in SHAPES:
            self.assertEqual(fitting(untold(rows, columns))[0], [0])
            told(untold(rows, columns))

    def test_numbers_from_below_0_to_4_are_not_refused(self):
        for clue in (-1, 0, 1, 2, 3, 4):
            fitting([[clue, clue]])
            told([[clue, clue]])

    def test_wrong_shapes(self):
        for label, clues in WRONG_SHAPES:
            self.refuses(label, clues)

    def test_wrong_numbers(self):
        for label, clues in wrong_numbers():
            self.refuses(label, clues)

    def test_wrong_rows(self):
        for label, clues in wrong_rows():
            self.refuses(label, clues)

    def test_of_no_kind(self):
        for label, clues in no_numbers():
            self.refuses(label, clues)

    def test_a_list_in_itself(self):
        clues = [[-1]]
        clues[0] = clues
        self.refuses("rows", clues)
        clues = [[-1]]
        clues[0][0] = clues
        self.refuses("numbers", clues)

    def test_true_and_false_where_1_and_0_would_do(self):
        self.assertEqual(fitting([[4, 1, 0]]), [[0]])
        self.refuses("True", [[4, True, 0]])
        self.refuses("False", [[4, 1, False]])

    def test_a_refusal_changes_nothing(self):
        for clues in ([[1, 1], [1]], [[5]], [[1, None]]):
            handed = copy.deepcopy(clues)
            self.refuses(clues, handed)
            self.assertEqual(handed, clues)


if __name__ == "__main__":
    unittest.main()
