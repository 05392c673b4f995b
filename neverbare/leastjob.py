"""The least and the greatest job that look alike to a job, and all between them."""

from neverbare.errors import TooMany
from neverbare.jobs import with_all_cells
from neverbare.unlike import check_comparable
from neverbare.unseen import is_unseen


def _seen_cells(job, number):
    """The cells of a plate that are ever seen."""
    return [cell for cell in job.plates[number].cells if not is_unseen(job, number, cell)]


def _greatest_cells(job, number):
    """The cells of a plate, and all cells of the field that would be unseen in it."""
    cells = job.plates[number].cells
    return [cell for cell in job.field if cell in cells or is_unseen(job, number, cell)]


def least_job(job):
    """The job without all its unseen inks."""
    return with_all_cells(job, [_seen_cells(job, number) for number in range(len(job.plates))])


def greatest_job(job):
    """The job with as much unseen ink as can be there."""
    return with_all_cells(job, [_greatest_cells(job, number) for number in range(len(job.plates))])


def spare_inks(job):
    """The inks that the greatest job has and the least job has not, ascending."""
    found = []
    for number in range(len(job.plates)):
        seen = _seen_cells(job, number)
        found.extend([
            (number, cell) for cell in _greatest_cells(job, number) if cell not in seen
        ])
    return tuple(found)


def count_alike(job):
    """The number of all jobs that look alike to the job."""
    return 1 << len(spare_inks(job))


def _job_number(least, spare, number):
    """The least job with the spare inks that the bits of a number tell."""
    rows = [list(plate.cells) for plate in least.plates]
    for bit, (plate, cell) in enumerate(spare):
        if (number >> bit) & 1 == 1:
            rows[plate].append(cell)
    return with_all_cells(least, rows)


def alike_jobs(job):
    """Yields all jobs that look alike to the job, at most 256."""
    if count_alike(job) > 256:
        raise TooMany(256)
    least = least_job(job)
    spare = spare_inks(job)
    for number in range(1 << len(spare)):
        yield _job_number(least, spare, number)


def _holds(one, other):
    """Whether each plate of one job has all cells of the other job's plate."""
    return all([
        cell in plate.cells
        for plate, lesser in zip(one.plates, other.plates) for cell in lesser.cells
    ])


def is_between(low, job, high):
    """Whether each plate has all cells of the low job's plate and none that the high job's lacks."""
    check_comparable(low, job)
    check_comparable(job, high)
    return _holds(job, low) and _holds(high, job)
