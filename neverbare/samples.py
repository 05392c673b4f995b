"""Samples of slips: one for each way in which the ink plates can stand apart."""

from neverbare.errors import TooMany
from neverbare.passing import all_apart, apart_of
from neverbare.ratios import ZERO
from neverbare.slips import check_slips
from neverbare.stands import row_of


def _ink_plates(job):
    """The numbers of the plates with at least one cell, ascending."""
    return [number for number, plate in enumerate(job.plates) if len(plate.cells) > 0]


def _apart_along(row, numbers):
    """How these plates stand apart along an axis."""
    if len(numbers) == 0:
        return ()
    return apart_of([row[number] for number in numbers])


def apart_at(job, slips):
    """How the ink plates stand apart along x and along y."""
    told = check_slips(job, slips)
    numbers = _ink_plates(job)
    return (_apart_along(row_of(told, 0), numbers), _apart_along(row_of(told, 1), numbers))


def _rows_along(job, numbers, axis):
    """The rows of these plates' slips, one for each way to stand apart along an axis."""
    if len(numbers) == 0:
        return [()]
    bounds = [job.plates[number].bound[axis] for number in numbers]
    return [row for apart, row in all_apart(bounds)]


def _slips_of(job, numbers, row_x, row_y):
    """The slips that have these two rows for these plates, and 0 for the others."""
    slips = [(ZERO, ZERO) for plate in job.plates]
    for at, number in enumerate(numbers):
        slips[number] = (row_x[at], row_y[at])
    return tuple(slips)


def apart_samples(job):
    """Slips, one for each way in which the ink plates can stand apart, at most 400."""
    numbers = _ink_plates(job)
    rows_x = _rows_along(job, numbers, 0)
    rows_y = _rows_along(job, numbers, 1)
    if len(rows_x) * len(rows_y) > 400:
        raise TooMany(400)
    return tuple([
        _slips_of(job, numbers, row_x, row_y) for row_x in rows_x for row_y in rows_y
    ])
