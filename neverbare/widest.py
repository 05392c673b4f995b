"""The widest runs over all slips."""

from neverbare.cells import check_axis
from neverbare.kinds import check_kind
from neverbare.places import kinds_by_code
from neverbare.ratios import compare, make_ratio
from neverbare.regions import are_whole_slips
from neverbare.runs import Run, check_window, ratio_ends, run_fault


def marks_of_kind(wanted, marks, full):
    """The bits at which the plates that are on show the kind; each plate's marks are bits, too."""
    found = 0
    for code, right in enumerate(wanted):
        if right:
            here = full
            for plate, mark in enumerate(marks):
                here = here & (mark if (code >> plate) & 1 == 1 else ~mark)
            found = found | here
    return found


def moved_marks(marks, by):
    """The bits moved up by a whole number, which may be below 0."""
    return marks << by if by >= 0 else marks >> -by


def longest_of(marks):
    """The number of bits of the longest row of neighbouring bits."""
    size = 0
    left = marks
    while left > 0:
        left = left & (left >> 1)
        size += 1
    return size


def start_of(marks, size):
    """The number of the first bit of the lowest row of so many neighbouring bits."""
    left = marks
    for _ in range(size - 1):
        left = left & (left >> 1)
    return (left & -left).bit_length() - 1


def choices_of(layers):
    """Couples (marks, slips) for all choices of one couple (mark, slip) of each layer."""
    rows = [((), ())]
    for layer in layers:
        rows = [
            ((*marks, mark), (*slips, slip)) for marks, slips in rows for mark, slip in layer
        ]
    return rows


def unlike_marks(layer):
    """The couples (mark, slip) without those whose mark was there before."""
    found = {}
    for mark, slip in layer:
        if mark not in found:
            found[mark] = slip
    return list(found.items())


def _row_marks(plate, axis, row):
    """The cells of a plate in a row across the axis, as bits along the axis."""
    return sum([1 << cell[axis] for cell in plate.cells if cell[1 - axis] == row])


def _rows_over(plate, axis, cell):
    """Couples (marks, slip across the axis) of the rows that can lie over a sheet cell."""
    bound = plate.bound[1 - axis]
    return unlike_marks([
        (_row_marks(plate, axis, cell - slip), slip) for slip in range(-bound, bound + 1)
    ])


def rows_in_band(job, axis, band):
    """Triples (marks, sheet cell across, slips across): all rows of the plates that lie on a line.

    The marks tell the cells of each plate on the line as bits along the axis.
    """
    found = {}
    for cell in range(band[0], band[1]):
        layers = [_rows_over(plate, axis, cell) for plate in job.plates]
        for marks, slips in choices_of(layers):
            if marks not in found:
                found[marks] = (cell, slips)
    return [(marks, cell, slips) for marks, (cell, slips) in found.items()]


def slips_along(axis, along, across):
    """The slips made of ratios along the axis and ratios across it."""
    if axis == 0:
        return tuple(list(zip(along, across)))
    return tuple(list(zip(across, along)))


def _moved_rows(job, axis, marks, low, full):
    """For each plate couples (marks within the window, slip along the axis) at whole slips."""
    return [
        unlike_marks([
            (moved_marks(mark, slip - low) & full, slip)
            for slip in range(-plate.bound[axis], plate.bound[axis] + 1)
        ])
        for mark, plate in zip(marks, job.plates)
    ]


def _widest_marks(job, axis, window, band, kind):
    """The longest row of bits of the kind, as (size, bits, sheet cell across, along, across)."""
    wanted = kinds_by_code(job, kind)
    full = (1 << (window[1] - window[0])) - 1
    best = (0, 0, band[0], (), ())
    for marks, cell, across in rows_in_band(job, axis, band):
        for moved, along in choices_of(_moved_rows(job, axis, marks, window[0], full)):
            bits = marks_of_kind(wanted, moved, full)
            size = longest_of(bits)
            if size > best[0]:
                best = (size, bits, cell, along, across)
    return best


def widest_of_all(job, axis, window, band, kind):
    """A Run at whole slips of the greatest length over all slips, or None; nothing is checked."""
    size, bits, cell, along, across = _widest_marks(job, axis, window, band, kind)
    if size == 0:
        return None
    slips = slips_along(axis, [make_ratio(u) for u in along], [make_ratio(v) for v in across])
    low = window[0] + start_of(bits, size)
    return Run(slips, (2 * cell + 1, 2), make_ratio(low), make_ratio(low + size))


def widest_run(job, axis, window, band, kind):
    """A Run at whole slips of the greatest length that comes at any slips, None if none comes."""
    check_axis(axis)
    span = check_window(window)
    stripe = check_window(band, "band")
    return widest_of_all(job, axis, span, stripe, check_kind(job, kind))


def is_inside(across, band):
    """Whether a line lies inside a band."""
    low, high = ratio_ends(band)
    return compare(low, across) < 0 < compare(high, across)


def _widest_word(job, window, band, run, widest):
    """What is wrong with a run, as far as run_fault does not tell it."""
    if not is_inside(run.across, band):
        return "band"
    if not are_whole_slips(job, run.slips):
        return "whole"
    return "wider" if compare(widest.length, run.length) > 0 else None


def widest_fault(job, axis, window, band, kind, run):
    """None if a Run, or None, is a widest run over all slips, otherwise the first word."""
    widest = widest_run(job, axis, window, band, kind)
    if run is None:
        return None if widest is None else "wider"
    word = run_fault(job, axis, window, kind, run)
    if word is not None:
        return word
    return _widest_word(job, window, band, run, widest)
