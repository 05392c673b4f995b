"""What is sure along an axis: stretches of a kind, ink, and the least width of longest runs."""

from neverbare.cells import check_axis
from neverbare.errors import TooMany
from neverbare.kinds import check_kind
from neverbare.places import codes_of_cells, kinds_by_code
from neverbare.ratios import ZERO, compare, greatest_of, is_ratio, make_ratio, minus
from neverbare.runs import check_window, is_free_line, joined_spans, ratio_ends, runs_between
from neverbare.slips import are_slips
from neverbare.widest import (
    choices_of, is_inside, longest_of, marks_of_kind, moved_marks, rows_in_band, slips_along,
    unlike_marks, widest_of_all,
)

# A narrowest line of one or two plates comes at slips that are whole numbers of sixths.
_PARTS = 6


class Narrow:
    """The least width of a longest run, and slips and a line that have it."""

    def __init__(self, width, slips, across):
        self.width = width
        self.slips = slips
        self.across = across

    def __eq__(self, other):
        return (isinstance(other, Narrow) and self.width == other.width
                and self.slips == other.slips and self.across == other.across)


def _is_sure(job, wanted, cell):
    """Whether the sheet cell shows nothing but the kind at any slips."""
    return all([wanted[codes[0]] for codes, _ in codes_of_cells(job, (cell,))])


def _cell_at(axis, along, across):
    """The sheet cell with these numbers along and across the axis."""
    return (along, across) if axis == 0 else (across, along)


def sure_stretches(job, axis, window, band, kind):
    """The longest stretches (low, high) that show the kind on all lines at all slips."""
    check_axis(axis)
    low, high = check_window(window)
    first, last = check_window(band, "band")
    wanted = kinds_by_code(job, check_kind(job, kind))
    sure = [
        (step, step + 1) for step in range(low, high)
        if all([_is_sure(job, wanted, _cell_at(axis, step, row)) for row in range(first, last)])
    ]
    return tuple(joined_spans(sure))


def surely_inked(job, axis, window, band):
    """Whether at all slips all lines inside the band have a place in the window that is not bare."""
    check_axis(axis)
    span = check_window(window)
    run = widest_of_all(job, axis, span, check_window(band, "band"), "bare")
    return run is None or compare(run.length, make_ratio(span[1] - span[0])) < 0


def _widened(marks):
    """The bits, each one as the neighbouring bits of its parts."""
    return sum([
        ((1 << _PARTS) - 1) << (bit * _PARTS)
        for bit in range(marks.bit_length()) if (marks >> bit) & 1 == 1
    ])


def _fine_slips(job, bound):
    """All slips within the bound with a bottom of at most plates + 1, as numbers of parts."""
    most = len(job.plates) + 1
    return [
        number for number in range(-bound * _PARTS, bound * _PARTS + 1)
        if make_ratio(number, _PARTS)[1] <= most
    ]


def _fine_rows(job, axis, marks, low, full):
    """For each plate couples (marks within the window, slip along the axis), in parts."""
    return [
        unlike_marks([
            (moved_marks(_widened(mark), slip - low * _PARTS) & full, slip)
            for slip in _fine_slips(job, plate.bound[axis])
        ])
        for mark, plate in zip(marks, job.plates)
    ]


def _narrowest(job, axis, window, band, kind):
    """A Narrow of the least width over all slips and lines inside the band."""
    wanted = kinds_by_code(job, kind)
    full = (1 << ((window[1] - window[0]) * _PARTS)) - 1
    best = None
    for marks, cell, across in rows_in_band(job, axis, band):
        for moved, along in choices_of(_fine_rows(job, axis, marks, window[0], full)):
            width = longest_of(marks_of_kind(wanted, moved, full))
            if best is None or width < best[0]:
                best = (width, cell, along, across)
    width, cell, along, across = best
    row = [make_ratio(number, _PARTS) for number in along]
    slips = slips_along(axis, row, [make_ratio(number) for number in across])
    return Narrow(make_ratio(width, _PARTS), slips, (2 * cell + 1, 2))


def narrowest_line(job, axis, window, band, kind):
    """A Narrow: the least width of a longest run over all slips, of a job of one or two plates."""
    check_axis(axis)
    span = check_window(window)
    stripe = check_window(band, "band")
    wanted = check_kind(job, kind)
    if len(job.plates) > 2:
        raise TooMany(2)
    return _narrowest(job, axis, span, stripe, wanted)


def _width_on(job, slips, axis, across, window, kind):
    """The greatest length of a run on a line, 0 if there is none."""
    runs = runs_between(job, slips, axis, across, ratio_ends(window), kind)
    return greatest_of([ZERO] + [minus(high, low) for low, high in runs])


def narrow_fault(job, axis, window, band, kind, narrow):
    """None if a Narrow is right, otherwise the first word that applies."""
    least = narrowest_line(job, axis, window, band, kind)
    if not are_slips(job, narrow.slips):
        return "slips"
    across = narrow.across
    if not is_free_line(narrow.slips, axis, across) or not is_inside(across, band):
        return "across"
    span = check_window(window)
    width = _width_on(job, narrow.slips, axis, across, span, check_kind(job, kind))
    if not is_ratio(narrow.width) or narrow.width != width:
        return "width"
    return "narrower" if compare(least.width, width) < 0 else None
