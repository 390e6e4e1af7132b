"""Other reckonings than the program's, by sides and points, for the tests to compare with."""

import functools
import itertools


def all_grids():
    """All grids, those of few cells first."""
    return sorted(itertools.product(range(1, 7), range(1, 7)), key=lambda grid: grid[0] * grid[1])


def small_grids(most=9):
    """All grids of at most so many cells, those of few cells first."""
    return [grid for grid in all_grids() if grid[0] * grid[1] <= most]


def all_lists(grid):
    """All lists of cells of the grid, in no promised order."""
    many = grid[0] * grid[1]
    return [[cell for cell in range(many) if bits >> cell & 1] for bits in range(1, 1 << many)]


def patterns(many):
    """Lists of cells of a grid of so many: each alone, all but one, runs, every so many."""
    everything = list(range(many))
    lists = [everything]
    lists += [[cell] for cell in everything]
    lists += [[cell for cell in everything if cell != gap] for gap in everything]
    lists += [everything[low:high] for low in everything for high in range(low + 1, many + 1)]
    lists += [everything[low::step] for step in range(2, 14) for low in range(step)]
    lists += [[cell for cell in everything if cell * cell * 7 % 31 < part] for part in range(4, 31, 3)]
    return [cells for cells in lists if cells]


def many_lists():
    """Pairs of a grid and some cells: all lists of small grids, and patterns of every grid."""
    for grid in all_grids():
        for cells in patterns(grid[0] * grid[1]):
            yield grid, cells
    for grid in small_grids():
        for cells in all_lists(grid):
            yield grid, cells


def drawn(text):
    """The grid and the cells of a drawing: rows with spaces between them, the cells as #."""
    lines = text.split()
    return (len(lines), len(lines[0])), [at for at, sign in enumerate("".join(lines)) if sign == "#"]


def places(grid):
    return list(itertools.product(range(grid[0]), range(grid[1])))


def four_sides(row, column):
    """A cell's sides, each by the two points at its ends."""
    a, b, c, d = (row, column), (row, column + 1), (row + 1, column), (row + 1, column + 1)
    return {frozenset([a, b]), frozenset([c, d]), frozenset([a, c]), frozenset([b, d])}


def rim(grid, cells):
    """The sides on the rim: those that two of the cells have in common cancel out."""
    sides = set()
    for cell in cells:
        sides ^= four_sides(*places(grid)[cell])
    return sides


def counted(grid, cells):
    """What numbers(grid, cells) tells."""
    sides = rim(grid, cells)
    return [[len(sides & four_sides(row, column)) for column in range(grid[1])] for row in range(grid[0])]


def is_ring(grid, cells):
    """Whether one can go round all sides of the rim by no point twice: two at each point, all joined."""
    sides = rim(grid, cells)
    points = [point for side in sides for point in side]
    if any(points.count(point) != 2 for point in points):
        return False
    reached = {points[0]}
    while True:
        further = {point for side in sides if side & reached for point in side}
        if further == reached:
            return reached == set(points)
        reached = further


def groups(spots):
    """The spots, pairs of a row and a column, as sets of those that hang together."""
    joined = []
    for row, column in spots:
        near = {(row - 1, column), (row + 1, column), (row, column - 1), (row, column + 1)}
        touched = [group for group in joined if group & near]
        joined = [group for group in joined if not group & near]
        joined.append({(row, column)}.union(*touched))
    return joined


def unjoined(grid, cells):
    """All pairs of two of the cells that don't hang together."""
    at = {spot: cell for cell, spot in enumerate(places(grid))}
    parts = [{at[spot] for spot in group} for group in groups([places(grid)[cell] for cell in cells])]
    return {(a, b) for one, other in itertools.permutations(parts, 2) for a in one for b in other}


def enclosed(grid, cells):
    """All cells that are shut in: those that don't hang together with a border laid round the grid."""
    taken = {places(grid)[cell] for cell in cells}
    wide = itertools.product(range(-1, grid[0] + 1), range(-1, grid[1] + 1))
    outside = [group for group in groups([spot for spot in wide if spot not in taken]) if (-1, -1) in group][0]
    return {cell for cell, spot in enumerate(places(grid)) if spot not in taken and spot not in outside}


@functools.lru_cache(None)
def ring_table(grid):
    """All rings of the grid in the order of lists, as pairs of the cells and of what numbers tells, row behind row."""
    found = sorted(cells for cells in all_lists(grid) if is_ring(grid, cells))
    return [(tuple(cells), tuple(itertools.chain(*counted(grid, cells)))) for cells in found]


def agreeing(clues):
    """All lists of cells whose rim is one ring that fits the clues, in the order of lists."""
    wanted = list(itertools.chain(*clues))
    table = ring_table((len(clues), len(clues[0])))
    return [list(cells) for cells, many in table if all(clue in (-1, n) for clue, n in zip(wanted, many))]


def in_rows(grid, flat):
    """The numbers as a list of rows of the grid."""
    return [list(flat[row * grid[1]:(row + 1) * grid[1]]) for row in range(grid[0])]
