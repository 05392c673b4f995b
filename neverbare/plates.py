"""Plates: ink on cells, clear or hiding, with a bound for the slip."""

from neverbare.cells import grown_cells, is_cell, is_reach, shrunk_cells
from neverbare.errors import BadPlate
from neverbare.ratios import is_sequence, is_whole


def _is_ink(cells):
    """Whether a thing is a sequence of 0 to 64 unlike cells from 0 to 7."""
    if not is_sequence(cells, 0, 64) or not all([is_cell(cell) for cell in cells]):
        return False
    if not all([is_whole(part, 0, 7) for cell in cells for part in cell]):
        return False
    return len({(cell[0], cell[1]) for cell in cells}) == len(cells)


def _are_rows(rows):
    """Whether a thing is a sequence of 1 to 8 strings of one length with ink signs alone."""
    if not is_sequence(rows, 1, 8) or not all([isinstance(row, str) for row in rows]):
        return False
    if not is_whole(len(rows[0]), 1, 8):
        return False
    if not all([len(row) == len(rows[0]) for row in rows]):
        return False
    return all([sign in "#." for row in rows for sign in row])


class Plate:
    """A plate: its ink, whether it is hiding, and the bound of its slip."""

    def __init__(self, cells, hiding=False, bound=(1, 1)):
        if not _is_ink(cells):
            raise BadPlate("cells")
        if not isinstance(hiding, bool):
            raise BadPlate("hiding")
        if not is_reach(bound):
            raise BadPlate("bound")
        self.cells = tuple(sorted([(cell[0], cell[1]) for cell in cells]))
        self.hiding = hiding
        self.bound = tuple(bound)

    def __eq__(self, other):
        return (isinstance(other, Plate) and self.cells == other.cells
                and self.hiding == other.hiding and self.bound == other.bound)

    def __len__(self):
        return len(self.cells)

    def __contains__(self, thing):
        return is_cell(thing) and tuple(thing) in self.cells

    @property
    def grown(self):
        """The cells over which the plate can be on at some slip."""
        return grown_cells(self.cells, self.bound)

    @property
    def deep(self):
        """The cells over which the plate is on at all slips."""
        return shrunk_cells(self.cells, self.bound)

    @staticmethod
    def from_rows(rows, hiding=False, bound=(1, 1)):
        """The plate of rows of "#" for ink and "." for none, the first one for y = 0."""
        if not _are_rows(rows):
            raise BadPlate("rows")
        cells = [(x, y) for y, row in enumerate(rows) for x, sign in enumerate(row) if sign == "#"]
        return Plate(cells, hiding, bound)
