"""Runs: the longest stretches of a kind on a line of the sheet, at told slips."""

from math import lcm

from neverbare.cells import check_axis
from neverbare.errors import BadAcross, BadWindow, OnLine
from neverbare.kinds import check_kind
from neverbare.places import kinds_by_code
from neverbare.ratios import (
    ascending_ratios, compare, floor_of, is_ratio, is_sequence, is_whole, make_ratio,
    middle_of_two, minus, plus,
)
from neverbare.shows import line_through
from neverbare.slips import are_slips, check_slips
from neverbare.stands import row_of


class Run:
    """A stretch from low to high of the line across, at these slips."""

    def __init__(self, slips, across, low, high):
        self.slips = slips
        self.across = across
        self.low = low
        self.high = high

    def __eq__(self, other):
        return (isinstance(other, Run) and self.slips == other.slips
                and self.across == other.across and self.low == other.low
                and self.high == other.high)

    @property
    def length(self):
        """How long the stretch is, a ratio."""
        return minus(self.high, self.low)


def check_window(window, what="window"):
    """The couple of whole numbers as a tuple."""
    if not is_sequence(window, 2, 2) or not all([is_whole(end, -20, 20) for end in window]):
        raise BadWindow(what)
    if window[0] >= window[1]:
        raise BadWindow(what)
    return tuple(window)


def ratio_ends(window):
    """The two ends of a window or band as ratios."""
    return (make_ratio(window[0]), make_ratio(window[1]))


def _steps_on(job, slips, axis, across):
    """For each plate the numbers along the axis of its cells on the line."""
    found = []
    for plate, ratio in zip(job.plates, row_of(slips, 1 - axis)):
        row = floor_of(minus(across, ratio))
        found.append({cell[axis]: True for cell in plate.cells if cell[1 - axis] == row})
    return found


def _cuts_between(low, high, size, shifts, steps):
    """The two ends, and the lines of the plates' cells between them, ascending."""
    lines = [
        (number + side) * size + shift
        for shift, numbers in zip(shifts, steps) for number in numbers for side in (0, 1)
    ]
    return sorted(set([low, high] + [line for line in lines if low < line < high]))


def _code_behind(cut, size, shifts, steps):
    """The code of the plates that are on just behind a cut."""
    code = 0
    for plate, numbers in enumerate(steps):
        if (cut - shifts[plate]) // size in numbers:
            code = code | (1 << plate)
    return code


def joined_spans(spans):
    """The spans, those that meet made one."""
    found = []
    for low, high in spans:
        if len(found) > 0 and found[-1][1] == low:
            found[-1] = (found[-1][0], high)
        else:
            found.append((low, high))
    return found


def runs_between(job, slips, axis, across, ends, kind):
    """All runs (low, high) between two ends of a line on which no plate has a line, ascending."""
    row = row_of(slips, axis)
    size = 1
    for ratio in (*row, *ends):
        size = lcm(size, ratio[1])
    # All that comes along the axis is a whole number of parts of this size.
    low, high = [ratio[0] * (size // ratio[1]) for ratio in ends]
    shifts = [ratio[0] * (size // ratio[1]) for ratio in row]
    steps = _steps_on(job, slips, axis, across)
    cuts = _cuts_between(low, high, size, shifts, steps)
    wanted = kinds_by_code(job, kind)
    spans = [
        (cuts[k], cuts[k + 1]) for k in range(len(cuts) - 1)
        if wanted[_code_behind(cuts[k], size, shifts, steps)]
    ]
    return tuple([
        (make_ratio(start, size), make_ratio(end, size)) for start, end in joined_spans(spans)
    ])


def runs_at(job, slips, axis, across, window, kind):
    """All runs (low, high) of the kind on the line within the window, ascending."""
    told = check_slips(job, slips)
    check_axis(axis)
    if not is_ratio(across):
        raise BadAcross()
    ends = ratio_ends(check_window(window))
    wanted = check_kind(job, kind)
    plate = line_through(row_of(told, 1 - axis), across)
    if plate is not None:
        raise OnLine(plate)
    return runs_between(job, told, axis, across, ends, wanted)


def is_within(inner, outer):
    """Whether one stretch (low, high) holds another one."""
    return compare(outer[0], inner[0]) <= 0 and compare(inner[1], outer[1]) <= 0


def _are_ends(low, high, ends):
    """Whether things of any kind are two ends of a stretch between these ends."""
    if not is_ratio(low) or not is_ratio(high) or compare(low, high) >= 0:
        return False
    return is_within((low, high), ends)


def is_free_line(slips, axis, across):
    """Whether a thing of any kind is a ratio at which no plate has a line across the axis."""
    return is_ratio(across) and line_through(row_of(slips, 1 - axis), across) is None


def run_fault(job, axis, window, kind, run):
    """None if a Run is one, otherwise the first word that applies."""
    check_axis(axis)
    ends = ratio_ends(check_window(window))
    wanted = check_kind(job, kind)
    if not are_slips(job, run.slips):
        return "slips"
    if not is_free_line(run.slips, axis, run.across):
        return "across"
    if not _are_ends(run.low, run.high, ends):
        return "ends"
    stretch = (run.low, run.high)
    for longest in runs_between(job, run.slips, axis, run.across, ends, wanted):
        if is_within(stretch, longest):
            return None if stretch == longest else "longer"
    return "shown"


def free_lines(row, ends):
    """A coordinate in the middle of each piece into which the plates' lines part a stretch."""
    low, high = ends
    cuts = [low, high]
    for ratio in row:
        first = floor_of(minus(low, ratio))
        last = floor_of(minus(high, ratio))
        lines = [plus(make_ratio(whole), ratio) for whole in range(first, last + 1)]
        cuts.extend([line for line in lines if compare(low, line) < 0 < compare(high, line)])
    rims = ascending_ratios(cuts)
    return [middle_of_two(rims[k], rims[k + 1]) for k in range(len(rims) - 1)]


def longest_run(job, slips, axis, window, band, kind):
    """A longest Run on the lines inside the band at checked slips, or None."""
    best = None
    for across in free_lines(row_of(slips, 1 - axis), ratio_ends(band)):
        for low, high in runs_between(job, slips, axis, across, ratio_ends(window), kind):
            if best is None or compare(minus(high, low), best.length) > 0:
                best = Run(slips, across, low, high)
    return best


def widest_at(job, slips, axis, window, band, kind):
    """A Run of the greatest length on any line inside the band, or None if there is none."""
    told = check_slips(job, slips)
    check_axis(axis)
    span = check_window(window)
    stripe = check_window(band, "band")
    return longest_run(job, told, axis, span, stripe, check_kind(job, kind))
