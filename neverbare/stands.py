"""Rows of slips along one axis, and how their lines stand to one another."""

from neverbare.cells import check_axis
from neverbare.errors import BadBounds, BadCorners, BadSlipRow, BadStand
from neverbare.ratios import (
    ONE, ZERO, ascending_ratios, broken_of, compare, floor_of, is_ratio, is_sequence, is_whole,
    make_ratio, minus,
)


def row_of(slips, axis):
    """The slips along one axis."""
    told = check_axis(axis)
    return tuple([slip[told] for slip in slips])


def check_slip_row(row):
    """The row of slips as a tuple."""
    if not is_sequence(row, 1, 3):
        raise BadSlipRow(0, "many")
    for index, ratio in enumerate(row):
        if not is_ratio(ratio):
            raise BadSlipRow(index, "ratio")
        if compare(ratio, (-2, 1)) < 0 or compare(ratio, (2, 1)) > 0:
            raise BadSlipRow(index, "far")
    return tuple(row)


def broken_parts(row):
    """The unlike broken parts above 0 of a row, ascending."""
    parts = [broken_of(ratio) for ratio in row]
    return ascending_ratios([part for part in parts if part != ZERO])


def stand_of(row):
    """The stand of a row: couples (floor, rank)."""
    told = check_slip_row(row)
    parts = broken_parts(told)
    ranks = (ZERO, *parts)
    return tuple([(floor_of(ratio), ranks.index(broken_of(ratio))) for ratio in told])


def row_from(stand):
    """A row that has the stand."""
    told = check_stand(stand)
    parts = len(told) + 1
    return tuple([make_ratio(floor * parts + rank, parts) for floor, rank in told])


def _gap_in(ranks):
    """The first plate whose rank is above 1 while no plate has the rank one less, or None."""
    for plate, rank in enumerate(ranks):
        if rank > 1 and rank - 1 not in ranks:
            return plate
    return None


def check_stand(stand):
    """The stand as a tuple of tuples."""
    if not is_sequence(stand, 1, 3):
        raise BadStand(0, "many")
    for index, item in enumerate(stand):
        if not is_sequence(item, 2, 2):
            raise BadStand(index, "plate")
        floor, rank = item
        if not is_whole(floor):
            raise BadStand(index, "floor")
        if not is_whole(rank, 0):
            raise BadStand(index, "rank")
        if not is_whole(floor, -2, 2) or (floor == 2 and rank > 0):
            raise BadStand(index, "far")
    gap = _gap_in([item[1] for item in stand])
    if gap is not None:
        raise BadStand(gap, "gap")
    return tuple([tuple(item) for item in stand])


def check_bounds(bounds):
    """The bounds of 1 to 3 plates along one axis, as a tuple."""
    if not is_sequence(bounds, 1, 3):
        raise BadBounds(0, "many")
    for index, bound in enumerate(bounds):
        if not is_whole(bound, 0, 2):
            raise BadBounds(index, "bound")
    return tuple(bounds)


def _choices_within(bound, ranks):
    """All couples (floor, rank) of one plate, with ranks from 0 to the greatest, ascending."""
    whole = [(floor, rank) for floor in range(-bound, bound) for rank in range(ranks + 1)]
    return whole + [(bound, 0)]


def _stands_within(bounds):
    """All stands within the bounds, ascending."""
    told = check_bounds(bounds)
    rows = [()]
    for bound in told:
        choices = _choices_within(bound, len(told))
        rows = [(*row, choice) for row in rows for choice in choices]
    return [row for row in rows if _gap_in([choice[1] for choice in row]) is None]


def all_stands(bounds):
    """Yields the stands of all rows within the bounds, ascending."""
    yield from _stands_within(bounds)


def count_stands(bounds):
    """The number of the stands of all rows within the bounds."""
    return len(_stands_within(bounds))


def corners_of(stand):
    """The rows of whole numbers between which the rows of the stand lie, the greatest first."""
    told = check_stand(stand)
    greatest = max([rank for floor, rank in told])
    return tuple([
        tuple([floor + 1 if rank > corner else floor for floor, rank in told])
        for corner in range(greatest + 1)
    ])


def shares_of(row):
    """The shares by which the row is the mean of its stand's corners."""
    parts = broken_parts(check_slip_row(row))
    cuts = (ZERO, *parts, ONE)
    return tuple([minus(cuts[k + 1], cuts[k]) for k in range(len(cuts) - 1)])


def _is_step(first, before, row):
    """Whether a row can be the corner behind another one."""
    steps = [old - new for old, new in zip(before, row)]
    if not all([step in (0, 1) for step in steps]) or 1 not in steps:
        return False
    return all([old - new <= 1 for old, new in zip(first, row)])


def _check_corners(corners):
    if not is_sequence(corners, 1, 4):
        raise BadCorners(0, "many")
    for index, row in enumerate(corners):
        if not is_sequence(row, 1, 3) or not all([is_whole(part, -2, 2) for part in row]):
            raise BadCorners(index, "row")
        if len(row) != len(corners[0]):
            raise BadCorners(index, "row")
        if index > 0 and not _is_step(corners[0], corners[index - 1], row):
            raise BadCorners(index, "step")


def stand_from(corners):
    """The one stand that has just these corners."""
    _check_corners(corners)
    lowest = corners[-1]
    return tuple([
        (floor, len([corner for corner in corners if corner[plate] > floor]))
        for plate, floor in enumerate(lowest)
    ])


def lies_at_edge(one, other):
    """Whether rows of the other stand come as near as you like to some row of the first one."""
    near = corners_of(one)
    far = corners_of(other)
    return all([corner in far for corner in near])
