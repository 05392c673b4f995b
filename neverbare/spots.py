"""Spots: the pieces into which the lines of all plates cut the sheet cells along an axis."""

from neverbare.errors import BadPlace, BadSpan, BadSpot, BadStand, OnLine
from neverbare.ratios import (
    ONE, ZERO, broken_of, compare, floor_of, is_ratio, is_sequence, is_whole, make_ratio,
    middle_of_two, minus, negative, plus,
)
from neverbare.sheets import table_of
from neverbare.shows import line_through, showings_by_code
from neverbare.slips import check_slips
from neverbare.stands import (
    broken_parts, check_slip_row, check_stand, corners_of, row_from, row_of, stand_of,
)


def _check_spot(spot, last):
    """The spot as a tuple; the last one of a cell is told."""
    if not is_sequence(spot, 2, 2) or not is_whole(spot[0]) or not is_whole(spot[1], 0, last):
        raise BadSpot()
    return tuple(spot)


def spot_at(row, ratio):
    """The spot in which a coordinate lies."""
    told = check_slip_row(row)
    if not is_ratio(ratio):
        raise BadPlace()
    plate = line_through(told, ratio)
    if plate is not None:
        raise OnLine(plate)
    part = broken_of(ratio)
    return (floor_of(ratio), len([cut for cut in broken_parts(told) if compare(cut, part) < 0]))


def middle_of(row, spot):
    """The coordinate in the middle of a spot."""
    cuts = (ZERO, *broken_parts(check_slip_row(row)), ONE)
    cell, piece = _check_spot(spot, len(cuts) - 2)
    return plus(make_ratio(cell), middle_of_two(cuts[piece], cuts[piece + 1]))


def cells_under(stand, spot):
    """For each plate the number along the axis of its cell over the spot."""
    corners = corners_of(stand)
    cell, piece = _check_spot(spot, len(corners) - 1)
    return tuple([cell - number for number in corners[piece]])


def _whole_slips_of(row_x, row_y):
    """The slips made of two rows of whole numbers."""
    return tuple([((u, 1), (v, 1)) for u, v in zip(row_x, row_y)])


def corner_slips(stands):
    """The whole slips made of each corner along x and each corner along y, in rows."""
    along_x, along_y = stands
    corners = corners_of(along_y)
    return [[_whole_slips_of(one, other) for other in corners] for one in corners_of(along_x)]


def slips_for_spots(job, slips, spot_x, spot_y):
    """Whole slips at which the spots' sheet cell shows what their places show."""
    rows = corner_slips(stands_of(job, slips))
    piece_x = _check_spot(spot_x, len(rows) - 1)[1]
    piece_y = _check_spot(spot_y, len(rows[0]) - 1)[1]
    return rows[piece_x][piece_y]


def stands_of(job, slips):
    """The stands of the slips along x and along y."""
    told = check_slips(job, slips)
    return (stand_of(row_of(told, 0)), stand_of(row_of(told, 1)))


def _passes(floor, rank, bound):
    """Whether a slip of this stand is beyond the bound."""
    return floor < -bound or floor + (1 if rank > 0 else 0) > bound


def _check_stand_along(job, stand, axis):
    """The stand of all plates of the job along an axis, as a tuple of tuples."""
    told = check_stand(stand)
    if len(told) != len(job.plates):
        raise BadStand(0, "many")
    for index, (floor, rank) in enumerate(told):
        if _passes(floor, rank, job.plates[index].bound[axis]):
            raise BadStand(index, "bound")
    return told


def check_stands(job, stands):
    """The couple of the stands of the job along x and along y, as tuples."""
    if not is_sequence(stands, 2, 2):
        raise BadStand(0, "many")
    return (_check_stand_along(job, stands[0], 0), _check_stand_along(job, stands[1], 1))


def _check_span(span, axis):
    """The numbers of the sheet cells of a span, ascending."""
    if not is_sequence(span, 2, 2) or not all([is_whole(end, -20, 20) for end in span]):
        raise BadSpan(axis)
    if span[0] >= span[1]:
        raise BadSpan(axis)
    return list(range(span[0], span[1]))


def _cells_along(stand, numbers):
    """For each spot of the sheet cells the numbers of the plates' cells over it."""
    pieces = len(corners_of(stand))
    return [cells_under(stand, (number, piece)) for number in numbers for piece in range(pieces)]


def _code_over(inks, cells_x, cells_y):
    """The code of the plates that are on where these cells of theirs lie over the sheet."""
    code = 0
    for plate, ink in enumerate(inks):
        if (cells_x[plate], cells_y[plate]) in ink:
            code = code | (1 << plate)
    return code


def picture_of(job, stands, span_x, span_y):
    """What the spots of the spans show, in rows."""
    along_x, along_y = check_stands(job, stands)
    columns = _cells_along(along_x, _check_span(span_x, 0))
    rows = _cells_along(along_y, _check_span(span_y, 1))
    inks = [{cell: True for cell in plate.cells} for plate in job.plates]
    showings = showings_by_code(job)
    return tuple([
        tuple([showings[_code_over(inks, column, row)] for column in columns])
        for row in rows
    ])


def table_at(job, stands):
    """The table of all sheets with these stands."""
    along_x, along_y = check_stands(job, stands)
    return table_of(job, tuple(list(zip(row_from(along_x), row_from(along_y)))))


def whole_stretch(row, low, high):
    """A corner of the row's stand, and a stretch (low, high) of whole numbers.

    The stretch is at least as long as the told one, which is not empty. What its cells show at
    the corner shows within the told stretch, too.
    """
    parts = broken_parts(row)
    start = floor_of(low)
    first = len([cut for cut in parts if compare(cut, broken_of(low)) <= 0])
    end = -floor_of(negative(high)) - 1
    last = len([cut for cut in parts if compare(cut, minus(high, make_ratio(end))) < 0])
    # Of all corners, the one under which the first spot is whole covers the most cells.
    corner = corners_of(stand_of(row))[first]
    return (corner, (start, end + 1 if first <= last else end))
