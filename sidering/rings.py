"""Rings: judged, walked, all listed, and found by clues."""

from sidering.answers import Hole, Never, One, Ring, Split, Two
from sidering.clues import MOST_CELLS, all_fitting, all_rings, check_clues
from sidering.errors import BadGrid, NoRing
from sidering.grids import check_cells, check_grid
from sidering.parts import apart, shut_in
from sidering.rims import ring_points


def judged(grid, cells):
    """A Ring, or why the rim of the cells is none: a Split or a Hole."""
    check_grid(grid)
    check_cells(grid, cells)
    others = apart(grid, cells)
    if others:
        return Split(cells[0], others[0])
    holes = shut_in(grid, cells)
    if holes:
        return Hole(holes[0])
    return Ring()


def walk(grid, cells):
    """The points on the ring in turn, from the first on, to the right first."""
    check_grid(grid)
    check_cells(grid, cells)
    points = ring_points(grid, cells)
    if points is None:
        raise NoRing("the rim of the cells is not one ring")
    return points


def rings(grid):
    """All lists of cells of a grid of at most 9 cells whose rim is one ring, in the order of lists."""
    check_grid(grid)
    if grid[0] * grid[1] > MOST_CELLS:
        raise BadGrid("all rings are listed of a grid of at most 9 cells")
    return all_rings(grid)


def fitting(clues):
    """All lists of cells whose rim is one ring that fits the clues, in the order of lists."""
    check_clues(clues)
    return all_fitting(clues)


def told(clues):
    """A One, a Two or a Never: how many rings fit the clues."""
    found = fitting(clues)
    if len(found) == 0:
        return Never()
    if len(found) == 1:
        return One(found[0])
    return Two(found[0], found[1])
