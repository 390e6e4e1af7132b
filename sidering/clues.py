"""Clues, and all lists of cells, with or without them, whose rim is one ring."""

from sidering.errors import BadClues
from sidering.grids import SIDES, are_cells, is_length, is_number, sides_on_rim
from sidering.rims import is_one_ring

MOST_CELLS = 9
NOT_TOLD = -1


def is_row(value):
    """Whether the value is a list of numbers that a row of clues may have."""
    if not isinstance(value, list) or not is_length(len(value)):
        return False
    return all([is_number(clue) and NOT_TOLD <= clue <= SIDES for clue in value])


def are_clues(value):
    """Whether the value is a list of rows of clues, all of one length, of not too many cells."""
    if not isinstance(value, list) or not is_length(len(value)):
        return False
    if not all([is_row(row) for row in value]):
        return False
    columns = len(value[0])
    return len(value) * columns <= MOST_CELLS and all([len(row) == columns for row in value])


def check_clues(clues):
    """Refuse what are no clues."""
    if not are_clues(clues):
        raise BadClues("clues are 1 to 6 rows of one length, 1 to 6, of at most 9 numbers from -1 to 4")


def grid_of(clues):
    """The grid that the clues are of."""
    return (len(clues), len(clues[0]))


def agree(clues, cells):
    """Whether so many sides as the clues tell are on the rim of the cells."""
    grid = grid_of(clues)
    columns = grid[1]
    for row, line in enumerate(clues):
        for column, clue in enumerate(line):
            if clue != NOT_TOLD and clue != sides_on_rim(grid, cells, row * columns + column):
                return False
    return True


def fits(clues, cells):
    """Whether this is a list of cells of the clues' grid whose rim is one ring that fits."""
    grid = grid_of(clues)
    return are_cells(grid, cells) and agree(clues, cells) and is_one_ring(grid, cells)


def all_cells(grid):
    """All lists of cells of the grid, in the order of lists."""
    rows, columns = grid
    listed = []
    for cell in reversed(range(rows * columns)):
        # Those that begin with the cell come before those of greater cells only, the cell alone first of all.
        listed = [[cell]] + [[cell] + behind for behind in listed] + listed
    return listed


def all_rings(grid):
    """All lists of cells of the grid whose rim is one ring, in the order of lists."""
    return [cells for cells in all_cells(grid) if is_one_ring(grid, cells)]


def all_fitting(clues):
    """All lists of cells whose rim is one ring that fits the clues, in the order of lists."""
    return [cells for cells in all_cells(grid_of(clues)) if fits(clues, cells)]
