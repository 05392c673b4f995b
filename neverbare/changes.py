"""Changes of a job, made one after another."""

from neverbare.cells import is_reach
from neverbare.errors import BadCell, BadChange
from neverbare.jobs import check_field_cell
from neverbare.needs import has_ink
from neverbare.ratios import is_sequence, is_whole

_SIZES = {"ink": 3, "wipe": 3, "bound": 3, "hide": 2, "clear": 2, "exchange": 2}


def _is_form(thing):
    """Whether a thing of any kind has the first word and the length of a change."""
    if not is_sequence(thing, 1) or not isinstance(thing[0], str):
        return False
    return len(thing) == _SIZES.get(thing[0])


def _field_cell(job, index, plate, cell):
    """The cell of the field as a tuple."""
    try:
        return check_field_cell(job, plate, cell)
    except BadCell:
        raise BadChange(index, "cell")


def _check_change(job, index, change):
    """The change with its parts as tuples."""
    if not _is_form(change):
        raise BadChange(index, "change")
    word = change[0]
    plate = change[1]
    greatest = len(job.plates) - (2 if word == "exchange" else 1)
    if not is_whole(plate, 0, greatest):
        raise BadChange(index, "plate")
    if word in ("ink", "wipe"):
        return (word, plate, _field_cell(job, index, plate, change[2]))
    if word != "bound":
        return (word, plate)
    if not is_reach(change[2]):
        raise BadChange(index, "bound")
    return (word, plate, tuple(change[2]))


def check_changes(job, changes):
    """The changes, at most 100, as a tuple of tuples."""
    if not is_sequence(changes, 0, 100):
        raise BadChange(0, "many")
    return tuple([_check_change(job, index, change) for index, change in enumerate(changes)])


def _with_change(job, change):
    """The job behind one checked change."""
    word = change[0]
    plate = change[1]
    if word == "exchange":
        return job.exchanged(plate)
    if word == "bound":
        return job.with_bound(plate, change[2])
    if word in ("hide", "clear"):
        return job.with_hiding(plate, word == "hide")
    if has_ink(job, plate, change[2]) == (word == "ink"):
        return job
    if word == "ink":
        return job.with_ink(plate, change[2])
    return job.without_ink(plate, change[2])


def with_changes(job, changes):
    """The job behind checked changes, however many."""
    now = job
    for change in changes:
        now = _with_change(now, change)
    return now


def job_after(job, changes):
    """The job with all changes made one after another."""
    return with_changes(job, check_changes(job, changes))
