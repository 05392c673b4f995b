"""Cells, axes and reaches, and cells grown and shrunk by a reach."""

from neverbare.errors import BadAxis, BadCells, BadReach
from neverbare.ratios import is_sequence, is_whole


def is_cell(thing):
    """Whether a thing of any kind is a cell."""
    return is_sequence(thing, 2, 2) and all([is_whole(part, -20, 20) for part in thing])


def check_cells(cells):
    """The unlike cells of a sequence of at most 100 cells, ascending."""
    if not is_sequence(cells, 0, 100):
        raise BadCells(0, "many")
    for index, cell in enumerate(cells):
        if not is_cell(cell):
            raise BadCells(index, "cell")
    return tuple(sorted({(cell[0], cell[1]) for cell in cells}))


def check_axis(axis):
    """The axis: 0 along x, 1 along y."""
    if not is_whole(axis, 0, 1):
        raise BadAxis(axis)
    return axis


def is_reach(thing):
    """Whether a thing of any kind is a reach."""
    return is_sequence(thing, 2, 2) and all([is_whole(part, 0, 2) for part in thing])


def check_reach(reach):
    """The reach as a tuple."""
    if not is_reach(reach):
        raise BadReach()
    return tuple(reach)


def near_cells(cell, reach):
    """All cells near a cell for a reach, ascending."""
    across, along = check_reach(reach)
    x, y = cell
    return tuple([
        (x + right, y + up)
        for right in range(-across, across + 1)
        for up in range(-along, along + 1)
    ])


def grown_cells(cells, reach):
    """All cells that are near one of the cells, ascending."""
    known = check_cells(cells)
    wide = check_reach(reach)
    return tuple(sorted({near for cell in known for near in near_cells(cell, wide)}))


def shrunk_cells(cells, reach):
    """The cells of which all near cells are among the cells, ascending."""
    known = check_cells(cells)
    wide = check_reach(reach)
    ink = {cell: True for cell in known}
    return tuple([cell for cell in known if all([near in ink for near in near_cells(cell, wide)])])
