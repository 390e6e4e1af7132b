"""The rim of some cells, side by side, and the way round it."""


def sides_round(columns, cell):
    """The four sides of the cell, each from point to point, the cell always to the right hand."""
    row, column = divmod(cell, columns)
    corners = [(row, column), (row, column + 1), (row + 1, column + 1), (row + 1, column)]
    return list(zip(corners, corners[1:] + corners[:1]))


def rim_sides(columns, cells):
    """The sides on the rim of the cells, each from point to point, one of the cells to the right hand."""
    sides = [side for cell in cells for side in sides_round(columns, cell)]
    listed = {side: True for side in sides}
    # The side between two of the cells is listed both ways; a side on the rim has one of them on one hand only.
    return [(start, end) for start, end in sides if (end, start) not in listed]


def ring_points(grid, cells):
    """The points of the rim in turn, from the first on, to the right first; None if it is not one ring."""
    sides = rim_sides(grid[1], cells)
    onward = {start: end for start, end in sides}
    # Two sides that go on from one point: the rim comes by it twice.
    if len(onward) < len(sides):
        return None
    # The first point is the upper left corner of a cell, so that cell to the right hand means on to the right.
    points = [min(list(onward))]
    while onward[points[-1]] != points[0]:
        points.append(onward[points[-1]])
    return points if len(points) == len(sides) else None


def is_one_ring(grid, cells):
    """Whether the rim of the cells is one ring."""
    return ring_points(grid, cells) is not None
