"""The answers: what is told of some cells and of clues, each of which can be asked whether it is so."""

from sidering.clues import all_fitting, fits
from sidering.grids import is_number
from sidering.parts import hanging, shut_in
from sidering.rims import is_one_ring


class Answer:
    """What all answers have in common."""


class Ring(Answer):
    """The rim of the cells is one ring."""

    def shows(self, grid, cells):
        """Whether it is so."""
        return is_one_ring(grid, cells)


class Split(Answer):
    """Two of the cells that don't hang together."""

    def __init__(self, one, other):
        self.one = one
        self.other = other

    def shows(self, grid, cells):
        """Whether it is so, by the fields as they stand."""
        # True and False are no cells, though Python finds them in a list with 1 and 0.
        if not is_number(self.one) or not is_number(self.other):
            return False
        if self.one not in cells or self.other not in cells:
            return False
        return self.other not in hanging(grid, cells, self.one)


class Hole(Answer):
    """A cell that is none of the cells and from which no way of such leads to the grid's edge."""

    def __init__(self, cell):
        self.cell = cell

    def shows(self, grid, cells):
        """Whether it is so, by the field as it stands."""
        return self.cell in shut_in(grid, cells)


class One(Answer):
    """The cells of the only ring that fits the clues."""

    def __init__(self, cells):
        self.cells = list(cells)

    def shows(self, clues):
        """Whether it is so, by the field as it stands."""
        return fits(clues, self.cells) and len(all_fitting(clues)) == 1


class Two(Answer):
    """The cells of two unlike rings that fit the clues."""

    def __init__(self, one, other):
        self.one = list(one)
        self.other = list(other)

    def shows(self, clues):
        """Whether it is so, by the fields as they stand."""
        return fits(clues, self.one) and fits(clues, self.other) and self.one != self.other


class Never(Answer):
    """No ring fits the clues."""

    def shows(self, clues):
        """Whether it is so."""
        return len(all_fitting(clues)) == 0
