"""All that one sheet cell can show at any slips."""

from neverbare.cells import is_cell, near_cells
from neverbare.errors import BadSheetCell
from neverbare.jobs import check_plate
from neverbare.kinds import check_kind, is_of_kind
from neverbare.ratios import is_sequence, is_whole
from neverbare.shows import showings_by_code
from neverbare.slips import whole_slips_of


def check_sheet_cell(cell):
    """The sheet cell as a tuple."""
    if not is_cell(cell):
        raise BadSheetCell()
    return tuple(cell)


def is_grown(plate, cell):
    """Whether a sheet cell is in the plate's grown cells, so that the plate can be on there."""
    return any([near in plate.cells for near in near_cells(cell, plate.bound)])


def is_deep(plate, cell):
    """Whether a sheet cell is deep in the plate, so that the plate cannot be off there."""
    return all([near in plate.cells for near in near_cells(cell, plate.bound)])


def can_be_on(job, plate, cell):
    """Whether the plate is on at some place of the sheet cell at some slips."""
    told = job.plates[check_plate(job, plate)]
    return is_grown(told, check_sheet_cell(cell))


def can_be_off(job, plate, cell):
    """Whether the plate is off at some place of the sheet cell at some slips."""
    told = job.plates[check_plate(job, plate)]
    return not is_deep(told, check_sheet_cell(cell))


def is_on_at(plate, slip, cell):
    """Whether the plate is on over the middle of a sheet cell at a whole slip."""
    return (cell[0] - slip[0][0], cell[1] - slip[1][0]) in plate.cells


def _marks_of(plate, cells, weight):
    """Couples (marks, least whole slip), in the order of the slips.

    The marks tell for each of the cells whether the plate is on over its middle: the weight or 0.
    """
    ink = {cell: True for cell in plate.cells}
    found = {}
    for slip in whole_slips_of(plate):
        right = slip[0][0]
        up = slip[1][0]
        marks = tuple([weight if (x - right, y - up) in ink else 0 for x, y in cells])
        if marks not in found:
            found[marks] = slip
    return list(found.items())


def _sums(one, other):
    return tuple([a + b for a, b in zip(one, other)])


def codes_of_layers(layers, many):
    """Couples (codes, slips) for all choices of one couple (marks, slip) of each plate's layer.

    The codes tell for each of so many places which plates are on there: bit p for plate p, if the
    marks of plate p are 0 or this bit.
    """
    rows = [(tuple([0 for _ in range(many)]), ())]
    for layer in layers:
        rows = [
            (_sums(codes, marks), (*slips, slip))
            for codes, slips in rows for marks, slip in layer
        ]
    return rows


def codes_of_cells(job, cells):
    """Couples (codes of the cells' middles, least whole slips), in the order of the slips."""
    layers = [_marks_of(plate, cells, 1 << number) for number, plate in enumerate(job.plates)]
    return codes_of_layers(layers, len(cells))


def pictures_of_codes(job, rows):
    """Couples (picture, its first slips) of couples (codes, slips), ascending by picture."""
    showings = showings_by_code(job)
    found = {}
    for codes, slips in rows:
        picture = tuple([showings[code] for code in codes])
        if picture not in found:
            found[picture] = slips
    return tuple([(picture, found[picture]) for picture in sorted(list(found))])


def pictures_of_cells(job, cells):
    """Couples (picture, least whole slips) of the cells' middles, ascending by picture."""
    # The codes are in the order of their slips, so the first ones of a picture are its least.
    return pictures_of_codes(job, codes_of_cells(job, cells))


def sheet_cells_about(job):
    """The sheet cells of the field and all those over which a plate can come, ascending."""
    return [(x, y) for x in range(-2, job.width + 2) for y in range(-2, job.height + 2)]


def kinds_by_code(job, kind):
    """For each choice of plates that are on whether its showing is of the kind."""
    return [is_of_kind(showing, kind) for showing in showings_by_code(job)]


def showings_at(job, cell):
    """Couples (showing, least whole slips) for all that the sheet cell can show."""
    told = check_sheet_cell(cell)
    return tuple([(picture[0], slips) for picture, slips in pictures_of_cells(job, (told,))])


def as_whole_numbers(thing):
    """The sequence of whole numbers as a tuple, or None if it is none."""
    if not is_sequence(thing) or not all([is_whole(part) for part in thing]):
        return None
    return tuple(thing)


def slips_for(job, cell, showing):
    """The least whole slips with which the cell's middle has the showing, or None."""
    wanted = as_whole_numbers(showing)
    for found, slips in showings_at(job, cell):
        if found == wanted:
            return slips
    return None


def surely_shows(job, cell):
    """The one showing of the cell, or None if it has several."""
    found = showings_at(job, cell)
    if len(found) > 1:
        return None
    return found[0][0]


def can_show(job, cell, kind):
    """The least whole slips with which the cell's middle is of the kind, or None."""
    found = showings_at(job, cell)
    told = check_kind(job, kind)
    slips = [row[1] for row in found if is_of_kind(row[0], told)]
    # For whole slips the order of the slips is that of the tuples.
    return min(slips, default=None)
