"""The refusals: one class for each kind of thing that is refused."""


class RingError(ValueError):
    """What all refusals have in common."""


class BadGrid(RingError):
    """What was handed in as a grid is none."""


class BadCells(RingError):
    """What was handed in as some cells of a grid is no such list."""


class BadClues(RingError):
    """What was handed in as clues is no such list."""


class NoRing(RingError):
    """The rim of the cells is not one ring."""
