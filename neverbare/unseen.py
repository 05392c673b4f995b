"""Ink that is never seen, whatever the slips."""

from neverbare.cells import near_cells
from neverbare.errors import NoInk
from neverbare.jobs import check_field_cell
from neverbare.places import is_deep
from neverbare.ratios import is_sequence, is_whole
from neverbare.shows import plate_cell, shown_at
from neverbare.slips import middle_of_cell
from neverbare.unlike import sight_fault


class Seen:
    """Slips and a place at which an ink is seen."""

    def __init__(self, slips, place):
        self.slips = slips
        self.place = place

    def __eq__(self, other):
        return isinstance(other, Seen) and self.slips == other.slips and self.place == other.place


def _check_ink(job, plate, cell):
    """The cell of an ink of the plate, as a tuple."""
    told = check_field_cell(job, plate, cell)
    if told not in job.plates[plate].cells:
        raise NoInk(plate, told)
    return told


def _hiding_plate(job, plate, cell):
    """The least plate that hides what is below it over the sheet cell at all slips, or None."""
    for above in range(plate + 1, len(job.plates)):
        if job.plates[above].hiding and is_deep(job.plates[above], cell):
            return above
    return None


def is_unseen(job, plate, cell):
    """Whether a cell would never be seen as ink of the plate."""
    near = near_cells(cell, job.plates[plate].bound)
    return all([_hiding_plate(job, plate, one) is not None for one in near])


def unseen_inks(job):
    """All unseen inks as couples (plate, cell), ascending."""
    return tuple([
        (number, cell)
        for number, plate in enumerate(job.plates) for cell in plate.cells
        if is_unseen(job, number, cell)
    ])


def _slip_over(cell, over):
    """The whole slip with which a cell of a plate lies over a sheet cell."""
    return ((over[0] - cell[0], 1), (over[1] - cell[1], 1))


def _slip_off(plate, over):
    """A whole slip with which the plate is off over a sheet cell that is not deep in it."""
    for near in near_cells(over, plate.bound):
        if near not in plate.cells:
            return _slip_over(near, over)
    return None


def _slips_that_show(job, plate, cell, over):
    """Whole slips with which an ink lies over a sheet cell and no plate above is on there."""
    slips = []
    for number, other in enumerate(job.plates):
        if number < plate or not other.hiding:
            slips.append(((0, 1), (0, 1)))
        else:
            slips.append(_slip_off(other, over))
    slips[plate] = _slip_over(cell, over)
    return tuple(slips)


def seen_at(job, plate, cell):
    """A Seen of an ink, or None if it is never seen."""
    told = _check_ink(job, plate, cell)
    for over in near_cells(told, job.plates[plate].bound):
        if _hiding_plate(job, plate, over) is None:
            return Seen(_slips_that_show(job, plate, told, over), middle_of_cell(over))
    return None


def cover_of(job, plate, cell):
    """Couples (sheet cell, hiding plate) that hide an ink, or None if it is ever seen."""
    told = _check_ink(job, plate, cell)
    near = near_cells(told, job.plates[plate].bound)
    rows = [(over, _hiding_plate(job, plate, over)) for over in near]
    if not all([above is not None for _, above in rows]):
        return None
    return tuple(rows)


def seen_fault(job, plate, cell, seen):
    """None if a Seen is right, otherwise the first word that applies."""
    told = _check_ink(job, plate, cell)
    word = sight_fault(job, seen.slips, seen.place)
    if word is not None:
        return word
    if plate_cell(job, seen.slips, plate, seen.place) != told:
        return "cell"
    if plate not in shown_at(job, seen.slips, seen.place):
        return "hidden"
    return None


def _row_fault(job, plate, over, row):
    """None if a row of a cover is right for this sheet cell, otherwise a word."""
    if not is_sequence(row, 2, 2):
        return "row"
    cell, above = row
    if not isinstance(cell, tuple) or not all([is_whole(part) for part in cell]) or cell != over:
        return "cell"
    if not is_whole(above, plate + 1, len(job.plates) - 1) or not job.plates[above].hiding:
        return "plate"
    return None if is_deep(job.plates[above], over) else "deep"


def cover_fault(job, plate, cell, rows):
    """None if the rows hide an ink at all slips, otherwise the first word that applies."""
    told = _check_ink(job, plate, cell)
    near = near_cells(told, job.plates[plate].bound)
    if not is_sequence(rows, len(near), len(near)):
        return "many"
    for over, row in zip(near, rows):
        word = _row_fault(job, plate, over, row)
        if word is not None:
            return word
    return None
