"""Regions, and whether they are never bare."""

from neverbare.cells import is_cell
from neverbare.errors import BadRegion, BadSlips
from neverbare.places import can_show, is_deep
from neverbare.ratios import is_sequence, is_whole
from neverbare.shows import shown_at
from neverbare.slips import is_whole_slips, middle_of_cell


class Deep:
    """A region is never bare: rows of couples (cell, plate in which the cell is deep)."""

    def __init__(self, rows):
        self.rows = rows

    def __eq__(self, other):
        return isinstance(other, Deep) and self.rows == other.rows


class Bare:
    """A cell of a region whose middle is bare with these whole slips."""

    def __init__(self, cell, slips):
        self.cell = cell
        self.slips = slips

    def __eq__(self, other):
        return isinstance(other, Bare) and self.cell == other.cell and self.slips == other.slips


def check_region(region):
    """The unlike cells of a region, ascending."""
    if not is_sequence(region, 0, 48):
        raise BadRegion(0)
    for index, cell in enumerate(region):
        if not is_cell(cell):
            raise BadRegion(index)
    return tuple(sorted({(cell[0], cell[1]) for cell in region}))


def is_one_of(thing, cells):
    """Whether a thing of any kind is one of the cells."""
    return is_cell(thing) and tuple(thing) in cells


def are_cells(things, cells):
    """Whether things of any kind are just the cells, in order."""
    if len(things) != len(cells):
        return False
    return all([is_one_of(thing, (cell,)) for thing, cell in zip(things, cells)])


def _deep_plate(job, cell):
    """The least plate in which the cell is deep, or None."""
    for number, plate in enumerate(job.plates):
        if is_deep(plate, cell):
            return number
    return None


def never_bare(job, region):
    """A Deep if no place of the region is bare at any slips, otherwise a Bare."""
    rows = []
    for cell in check_region(region):
        plate = _deep_plate(job, cell)
        if plate is None:
            return Bare(cell, can_show(job, cell, "bare"))
        rows.append((cell, plate))
    return Deep(tuple(rows))


def bare_cells(job, region):
    """All cells of the region that can be bare."""
    return tuple([cell for cell in check_region(region) if _deep_plate(job, cell) is None])


def deep_fault(job, region, deep):
    """None if the rows of a Deep are right, otherwise the first wrong row and a word."""
    cells = check_region(region)
    if not are_cells([row[0] for row in deep.rows], cells):
        return (0, "cells")
    for index, (cell, plate) in enumerate(deep.rows):
        if not is_whole(plate, 0, len(job.plates) - 1):
            return (index, "plate")
        if not is_deep(job.plates[plate], cell):
            return (index, "deep")
    return None


def are_whole_slips(job, thing):
    """Whether a thing of any kind is whole slips of the job."""
    try:
        return is_whole_slips(job, thing)
    except BadSlips:
        return False


def bare_fault(job, region, bare):
    """None if a Bare is right, otherwise the first word that applies."""
    cells = check_region(region)
    if not is_one_of(bare.cell, cells):
        return "cell"
    if not are_whole_slips(job, bare.slips):
        return "slips"
    if shown_at(job, bare.slips, middle_of_cell(bare.cell)) != ():
        return "shown"
    return None
