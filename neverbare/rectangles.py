"""Rectangles of a kind, at told slips and over all slips."""

from neverbare.errors import BadRectangle, BadSize
from neverbare.kinds import check_kind
from neverbare.places import kinds_by_code
from neverbare.ratios import ZERO, compare, floor_of, is_ratio, make_ratio, minus, negative
from neverbare.runs import check_window, free_lines, is_within, ratio_ends, runs_between
from neverbare.slips import are_slips, is_couple, whole_slips_of
from neverbare.spots import whole_stretch
from neverbare.stands import row_of
from neverbare.widest import (
    choices_of, longest_of, marks_of_kind, slips_along, start_of, unlike_marks,
)


class Rectangle:
    """The rectangle between two places, low and high, at these slips."""

    def __init__(self, slips, low, high):
        self.slips = slips
        self.low = low
        self.high = high

    def __eq__(self, other):
        return (isinstance(other, Rectangle) and self.slips == other.slips
                and self.low == other.low and self.high == other.high)

    @property
    def sides(self):
        """The width and the height."""
        return (minus(self.high[0], self.low[0]), minus(self.high[1], self.low[1]))


def _are_corners(low, high, limits):
    """Whether things of any kind are two corners within the limits along x and y."""
    if not is_couple(low) or not is_couple(high):
        return False
    for start, end, ends in zip(low, high, limits):
        if compare(start, end) >= 0 or not is_within((start, end), ends):
            return False
    return True


def _shows_all(job, rectangle, kind):
    """Whether each place of the rectangle on no line is of the kind."""
    slips = rectangle.slips
    stretch = (rectangle.low[0], rectangle.high[0])
    for across in free_lines(row_of(slips, 1), (rectangle.low[1], rectangle.high[1])):
        if runs_between(job, slips, 0, across, stretch, kind) != (stretch,):
            return False
    return True


def rectangle_fault(job, window, band, kind, rectangle):
    """None if a Rectangle is one, otherwise the first word that applies."""
    span = check_window(window)
    stripe = check_window(band, "band")
    wanted = check_kind(job, kind)
    if not are_slips(job, rectangle.slips):
        return "slips"
    limits = (ratio_ends(span), ratio_ends(stripe))
    if not _are_corners(rectangle.low, rectangle.high, limits):
        return "corners"
    return None if _shows_all(job, rectangle, wanted) else "shown"


def whole_rectangle(job, window, band, kind, rectangle):
    """A Rectangle at whole slips, with whole corners, that is at least as wide and as high."""
    word = rectangle_fault(job, window, band, kind, rectangle)
    if word is not None:
        raise BadRectangle(word)
    rows = []
    ends = []
    for axis in (0, 1):
        row = row_of(rectangle.slips, axis)
        corner, stretch = whole_stretch(row, rectangle.low[axis], rectangle.high[axis])
        rows.append([make_ratio(number) for number in corner])
        ends.append(ratio_ends(stretch))
    low = (ends[0][0], ends[1][0])
    return Rectangle(slips_along(0, rows[0], rows[1]), low, (ends[0][1], ends[1][1]))


def _marks_at(plate, slip, window, band):
    """The plate's cells within window and band at a whole slip, as bits.

    Each row of cells takes one bit more than the window is wide, so that no two rows meet.
    """
    stride = window[1] - window[0] + 1
    marks = 0
    for x, y in plate.cells:
        column = x + slip[0][0]
        row = y + slip[1][0]
        if window[0] <= column < window[1] and band[0] <= row < band[1]:
            marks = marks | (1 << ((row - band[0]) * stride + column - window[0]))
    return marks


def _all_marks(window, band):
    """The bits of all sheet cells within window and band."""
    wide = window[1] - window[0]
    return sum([((1 << wide) - 1) << (row * (wide + 1)) for row in range(band[1] - band[0])])


def _sheets_of_kind(job, window, band, kind):
    """Couples (bits of the sheet cells that show the kind, whole slips) for all whole slips."""
    wanted = kinds_by_code(job, kind)
    full = _all_marks(window, band)
    layers = [
        unlike_marks([
            (_marks_at(plate, slip, window, band), slip) for slip in whole_slips_of(plate)
        ])
        for plate in job.plates
    ]
    return unlike_marks([
        (marks_of_kind(wanted, marks, full), slips) for marks, slips in choices_of(layers)
    ])


def _widths_by_height(bits, stride):
    """The greatest width of a rectangle of each height from 1 on, as far as there are any."""
    found = []
    left = bits
    while left > 0:
        found.append(longest_of(left))
        left = left & (bits >> (len(found) * stride))
    return found


def greatest_rectangles(job, window, band, kind):
    """The greatest couples (width, height) of rectangles over all slips, ascending."""
    span = check_window(window)
    stripe = check_window(band, "band")
    wanted = check_kind(job, kind)
    best = [0 for _ in range(stripe[1] - stripe[0] + 1)]
    for bits, _ in _sheets_of_kind(job, span, stripe, wanted):
        widths = _widths_by_height(bits, span[1] - span[0] + 1)
        best = [max(old, new) for old, new in zip(best, widths + [0 for _ in best])]
    return tuple(sorted([
        (best[k], k + 1) for k in range(len(best) - 1) if best[k] > best[k + 1]
    ]))


def _starts_of(bits, width, height, stride):
    """The bits at which a rectangle of these sides begins."""
    left = bits
    for row in range(1, height):
        left = left & (bits >> (row * stride))
    across = left
    for column in range(1, width):
        across = across & (left >> column)
    return across


def _found_rectangle(job, window, band, kind, sides):
    """A Rectangle of whole sides at whole slips, or None."""
    stride = window[1] - window[0] + 1
    for bits, slips in _sheets_of_kind(job, window, band, kind):
        starts = _starts_of(bits, sides[0], sides[1], stride)
        if starts > 0:
            first = start_of(starts, 1)
            x = window[0] + first % stride
            y = band[0] + first // stride
            low = (make_ratio(x), make_ratio(y))
            return Rectangle(slips, low, (make_ratio(x + sides[0]), make_ratio(y + sides[1])))
    return None


def _whole_side(side, most):
    """The least whole number that is not below the side; beyond the most one more than it."""
    return min(-floor_of(negative(side)), most + 1)


def rectangle_for(job, window, band, kind, width, height):
    """A Rectangle at whole slips with whole corners and sides at least so great, or None."""
    span = check_window(window)
    stripe = check_window(band, "band")
    wanted = check_kind(job, kind)
    for size in (width, height):
        if not is_ratio(size) or compare(size, ZERO) <= 0:
            raise BadSize(size)
    sides = (
        _whole_side(width, span[1] - span[0]), _whole_side(height, stripe[1] - stripe[0]),
    )
    return _found_rectangle(job, span, stripe, wanted, sides)
