"""Cells that hang together, by cells beside one another, and cells that are shut in."""

from sidering.grids import SIDES, beside


def hanging(grid, cells, first):
    """Those of the cells that hang together with the first, which is one of them, itself, too."""
    found = [first]
    at = 0
    while at < len(found):
        found.extend([cell for cell in beside(grid, found[at]) if cell in cells and cell not in found])
        at += 1
    return found


def apart(grid, cells):
    """Those of the cells that don't hang together with the first of them."""
    together = hanging(grid, cells, cells[0])
    return [cell for cell in cells if cell not in together]


def none_of(grid, cells):
    """The cells of the grid that are none of the cells, rising."""
    rows, columns = grid
    return [cell for cell in range(rows * columns) if cell not in cells]


def at_edge(grid, cell):
    """Whether a side of the cell is the grid's edge."""
    return len(beside(grid, cell)) < SIDES


def is_shut_in(grid, empty, cell):
    """Whether no way from the cell, by empty cells as it is one, leads to the grid's edge."""
    return not any([at_edge(grid, other) for other in hanging(grid, empty, cell)])


def shut_in(grid, cells):
    """The cells that are none of the cells and from which no way of such leads to the grid's edge."""
    empty = none_of(grid, cells)
    return [cell for cell in empty if is_shut_in(grid, empty, cell)]
