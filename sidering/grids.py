"""Grids, some cells of one, and how many sides of each cell are on their rim."""

from sidering.errors import BadCells, BadGrid

MOST_LINES = 6
SIDES = 4


def is_number(value):
    """Whether the value is a whole number."""
    # Python counts True and False among the integers, the document does not.
    return isinstance(value, int) and not isinstance(value, bool)


def is_length(value):
    """Whether a grid may have so many rows, or so many columns."""
    return is_number(value) and 1 <= value <= MOST_LINES


def is_grid(value):
    """Whether the value is a pair of how many rows and how many columns."""
    return isinstance(value, tuple) and len(value) == 2 and is_length(value[0]) and is_length(value[1])


def are_cells(grid, value):
    """Whether the value is a rising list of cells of the grid, one at least."""
    if not isinstance(value, list) or len(value) == 0:
        return False
    rows, columns = grid
    # No cell is below 0, so the first one, too, rises above this.
    before = -1
    for cell in value:
        if not is_number(cell) or not before < cell < rows * columns:
            return False
        before = cell
    return True


def check_grid(grid):
    """Refuse what is no grid."""
    # The refused value is not shown: Python itself fails to write out a very great number.
    if not is_grid(grid):
        raise BadGrid("a grid is a pair of how many rows and how many columns, 1 to 6 each")


def check_cells(grid, cells):
    """Refuse what is no list of cells of the grid, which is known to be one."""
    if not are_cells(grid, cells):
        raise BadCells("some cells are a rising list of cells of the grid, one at least")


def beside(grid, cell):
    """The cells that have a side in common with this one, rising."""
    rows, columns = grid
    row, column = divmod(cell, columns)
    found = []
    if row > 0:
        found.append(cell - columns)
    if column > 0:
        found.append(cell - 1)
    if column < columns - 1:
        found.append(cell + 1)
    if row < rows - 1:
        found.append(cell + columns)
    return found


def sides_on_rim(grid, cells, cell):
    """How many sides of the cell, which may be none of the cells, are on their rim."""
    touching = len([other for other in beside(grid, cell) if other in cells])
    # What is beyond the grid is none of the cells: a side to there is on the rim just if this cell is one of them.
    return SIDES - touching if cell in cells else touching


def numbers(grid, cells):
    """Row by row, how many sides of each cell of the grid are on the rim of the cells."""
    check_grid(grid)
    check_cells(grid, cells)
    rows, columns = grid
    return [
        [sides_on_rim(grid, cells, row * columns + column) for column in range(columns)]
        for row in range(rows)
    ]
