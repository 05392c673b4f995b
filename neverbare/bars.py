"""Bars: what must hold of a job at all slips, or at some."""

from neverbare.cells import check_axis
from neverbare.errors import BadBar, PrintError
from neverbare.jobs import check_field_cell
from neverbare.kinds import check_kind
from neverbare.mixing import Unmixed, never_mixed
from neverbare.needs import has_ink
from neverbare.places import check_sheet_cell, slips_for
from neverbare.ratios import compare, is_ascending, is_sequence, is_whole, make_ratio
from neverbare.regions import check_region
from neverbare.runs import check_window
from neverbare.unseen import is_unseen
from neverbare.widest import widest_of_all


def _read_widest(job, bar):
    """A bar of the word widest, or None; refuses its other parts by their own errors."""
    word, axis, window, band, kind, most = bar
    if not is_whole(most, 0):
        return None
    return (word, check_axis(axis), check_window(window), check_window(band, "band"),
            check_kind(job, kind), most)


def _read_shows(job, bar):
    """A bar of the word shows, or None; refuses its cell by its own error."""
    word, cell, showing = bar
    if not is_ascending(showing, len(job.plates)):
        return None
    return (word, check_sheet_cell(cell), tuple(showing))


def _read_parts(job, bar):
    """The bar with all its parts as tuples, or None; refuses some parts by their own errors."""
    word = bar[0]
    if word == "widest" and len(bar) == 6:
        return _read_widest(job, bar)
    if word == "shows" and len(bar) == 3:
        return _read_shows(job, bar)
    if word in ("unseen", "seen") and len(bar) == 3:
        return (word, bar[1], check_field_cell(job, bar[1], bar[2]))
    if word == "never mixed" and len(bar) == 2:
        return (word, check_region(bar[1]))
    return None


def read_bar(job, bar):
    """The bar with all its parts as tuples, or None for a thing of any kind that is none."""
    if not is_sequence(bar, 1) or not isinstance(bar[0], str):
        return None
    try:
        return _read_parts(job, bar)
    except PrintError:
        return None


def run_over(job, axis, window, band, kind, most):
    """A Run at whole slips that is longer than a whole number, or None if none ever comes."""
    run = widest_of_all(job, axis, window, band, kind)
    if run is None or compare(run.length, make_ratio(most)) <= 0:
        return None
    return run


def bar_holds(job, bar):
    """Whether a bar holds for the job."""
    told = read_bar(job, bar)
    if told is None:
        raise BadBar(0)
    word = told[0]
    if word == "widest":
        _, axis, window, band, kind, most = told
        return run_over(job, axis, window, band, kind, most) is None
    if word == "shows":
        return slips_for(job, told[1], told[2]) is not None
    if word == "never mixed":
        return isinstance(never_mixed(job, told[1]), Unmixed)
    seen = has_ink(job, told[1], told[2]) and not is_unseen(job, told[1], told[2])
    return seen == (word == "seen")


def check_bars(job, bars):
    """The bars, at most 4, with all their parts as tuples."""
    if not is_sequence(bars, 0, 4):
        raise BadBar(0)
    found = []
    for index, bar in enumerate(bars):
        told = read_bar(job, bar)
        if told is None:
            raise BadBar(index)
        found.append(told)
    return tuple(found)
