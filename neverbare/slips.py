"""Slips of the plates of a job, and places of the sheet."""

from neverbare.cells import check_axis
from neverbare.errors import BadPlace, BadSlips
from neverbare.ratios import is_ratio, is_sequence, negative, times


def is_couple(thing):
    """Whether a thing of any kind is a sequence of two ratios."""
    return is_sequence(thing, 2, 2) and is_ratio(thing[0]) and is_ratio(thing[1])


def _is_within(ratio, bound):
    """Whether a ratio lies from minus the bound to the bound."""
    return -bound * ratio[1] <= ratio[0] <= bound * ratio[1]


def check_slips(job, slips):
    """The slips of the job as a tuple of tuples."""
    if not is_sequence(slips, len(job.plates), len(job.plates)):
        raise BadSlips(0, "many")
    for index, slip in enumerate(slips):
        if not is_couple(slip):
            raise BadSlips(index, "slip")
        bound = job.plates[index].bound
        if not _is_within(slip[0], bound[0]) or not _is_within(slip[1], bound[1]):
            raise BadSlips(index, "bound")
    return tuple([tuple(slip) for slip in slips])


def are_slips(job, thing):
    """Whether a thing of any kind is slips of the job."""
    try:
        check_slips(job, thing)
    except BadSlips:
        return False
    return True


def is_whole_slips(job, slips):
    """Whether the slips of the job are whole."""
    return all([ratio[1] == 1 for slip in check_slips(job, slips) for ratio in slip])


def whole_slips_of(plate):
    """All whole slips of one plate, ascending."""
    across, along = plate.bound
    return tuple([
        ((u, 1), (v, 1))
        for u in range(-across, across + 1)
        for v in range(-along, along + 1)
    ])


def all_whole_slips(job):
    """Yields all whole slips of the job, ascending."""
    rows = [()]
    for plate in job.plates:
        own = whole_slips_of(plate)
        rows = [(*row, slip) for row in rows for slip in own]
    yield from rows


def check_place(place):
    """The place as a tuple."""
    if not is_couple(place):
        raise BadPlace()
    return tuple(place)


def middle_of_cell(cell):
    """The place in the middle of a sheet cell."""
    x, y = cell
    return ((2 * x + 1, 2), (2 * y + 1, 2))


def _nearest_whole(ratio):
    """The least whole number that is not below the ratio less 1/2, as a ratio."""
    top, bottom = ratio
    return (-((bottom - 2 * top) // (2 * bottom)), 1)


def nearest_slips(job, slips):
    """The nearest whole slips."""
    told = check_slips(job, slips)
    return tuple([(_nearest_whole(u), _nearest_whole(v)) for u, v in told])


def mirrored_slips(slips, axis):
    """The slips of the job mirrored along this axis."""
    if check_axis(axis) == 0:
        return tuple([(negative(u), v) for u, v in slips])
    return tuple([(u, negative(v)) for u, v in slips])


def turned_slips(slips):
    """The slips of the turned job."""
    return tuple([(negative(v), u) for u, v in slips])


def finer_slips(slips, size):
    """The slips of the finer job."""
    by = (size, 1)
    return tuple([(times(u, by), times(v, by)) for u, v in slips])
