"""Whether two plates touch, at told slips and at all slips."""

from neverbare.errors import SamePlate
from neverbare.jobs import check_plate
from neverbare.pieces import beside
from neverbare.samples import apart_samples
from neverbare.sheets import sheet_of
from neverbare.slips import check_slips


def _check_two(job, one, other):
    """Refuses what are no two unlike plates of the job."""
    check_plate(job, one)
    check_plate(job, other)
    if one == other:
        raise SamePlate(one)


def _showings_on(sheet):
    """A dict of the rectangles of the sheet, ascending, with their showings."""
    return {
        (i, j): sheet.rows[j][i]
        for i in range(len(sheet.xs) - 1) for j in range(len(sheet.ys) - 1)
    }


def _touch_on(sheet, one, other):
    """The first rectangles in which two plates meet on a sheet, or None."""
    showings = _showings_on(sheet)
    for index, showing in showings.items():
        if one in showing:
            for near in sorted([index] + beside(index)):
                if other in showings.get(near, ()):
                    return (index, near)
    return None


def touch_at(job, slips, one, other):
    """The first rectangles in which two plates meet, or None if they do not touch."""
    told = check_slips(job, slips)
    _check_two(job, one, other)
    return _touch_on(sheet_of(job, told), one, other)


def may_touch(job, one, other):
    """The first sample at which two plates touch, or None if they touch at no slips."""
    _check_two(job, one, other)
    for slips in apart_samples(job):
        if _touch_on(sheet_of(job, slips), one, other) is not None:
            return slips
    return None


def must_touch(job, one, other):
    """None if two plates touch at all slips, otherwise the first sample at which they do not."""
    _check_two(job, one, other)
    for slips in apart_samples(job):
        if _touch_on(sheet_of(job, slips), one, other) is None:
            return slips
    return None
