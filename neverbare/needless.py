"""Which ink of a job a region needs, and which it does not."""

from neverbare.needs import check_deep, deep_needs, ink_of, lot_of, marks_of, without_lot
from neverbare.regions import check_region


def _needs_of_cells(job, region):
    """For each cell of a region that is never bare the needs that are met, as bits."""
    cells = check_region(region)
    check_deep(job, cells)
    return deep_needs(job, cells)


def needed_ink(job, region):
    """The lot of all inks of the job without each of which the region can be bare."""
    found = 0
    for needs in _needs_of_cells(job, region):
        if len(needs) == 1:
            found = found | needs[0]
    return lot_of(found)


def needless_ink(job, region):
    """The lot of all other inks of the job."""
    needed = needed_ink(job, region)
    return tuple([ink for ink in ink_of(job) if ink not in needed])


def _are_met(rows, marks):
    """Whether one need of each row is met by ink, told as bits."""
    return all([any([need & ~marks == 0 for need in needs]) for needs in rows])


def strip_job(job, region):
    """The job without each ink, struck in order, that the region does not need by then."""
    rows = _needs_of_cells(job, region)
    left = marks_of(ink_of(job))
    struck = []
    for ink in ink_of(job):
        without = left & ~marks_of([ink])
        if _are_met(rows, without):
            left = without
            struck.append(ink)
    return without_lot(job, struck)
