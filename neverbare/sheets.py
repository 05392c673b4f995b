"""Sheets: what shows everywhere but on lines."""

from neverbare.errors import BadSheet, OnCut
from neverbare.ratios import (
    ascending_ratios, compare, floor_of, is_ascending, is_ratio, is_sequence, make_ratio, minus,
    plus,
)
from neverbare.shows import showings_by_code
from neverbare.slips import check_place, check_slips


def _are_lines(lines):
    """Whether a thing is an ascending sequence of unlike ratios, none or more than one."""
    if not is_sequence(lines) or len(lines) == 1:
        return False
    if not all([is_ratio(line) for line in lines]):
        return False
    return all([compare(lines[k], lines[k + 1]) < 0 for k in range(len(lines) - 1)])


def _are_rows(rows, wide, high):
    """Whether a thing is a sequence of so many sequences of so many showings."""
    if not is_sequence(rows, high, high):
        return False
    if not all([is_sequence(row, wide, wide) for row in rows]):
        return False
    return all([is_ascending(showing, 3) for row in rows for showing in row])


class Sheet:
    """The lines of a sheet along x and y, and what shows between neighbouring ones."""

    def __init__(self, xs, ys, rows):
        if not _are_lines(xs):
            raise BadSheet("xs")
        if not _are_lines(ys) or (len(xs) == 0) != (len(ys) == 0):
            raise BadSheet("ys")
        if not _are_rows(rows, max(len(xs) - 1, 0), max(len(ys) - 1, 0)):
            raise BadSheet("rows")
        self.xs = tuple(xs)
        self.ys = tuple(ys)
        self.rows = tuple([tuple([tuple(showing) for showing in row]) for row in rows])

    def __eq__(self, other):
        return (isinstance(other, Sheet) and self.xs == other.xs
                and self.ys == other.ys and self.rows == other.rows)

    def moved(self, by):
        """The sheet with every line moved by a couple of ratios."""
        right, up = check_place(by)
        xs = [plus(line, right) for line in self.xs]
        ys = [plus(line, up) for line in self.ys]
        return Sheet(xs, ys, self.rows)


def _lines_of(job, slips, axis):
    """The lines of all plates along an axis, ascending."""
    lines = []
    for plate, slip in zip(job.plates, slips):
        numbers = [cell[axis] for cell in plate.cells]
        if len(numbers) > 0:
            for number in range(min(numbers), max(numbers) + 2):
                lines.append(plus(make_ratio(number), slip[axis]))
    return ascending_ratios(lines)


def _cells_behind(lines, slip):
    """For each line but the last one, the plate's cell along the axis just behind it."""
    return [floor_of(minus(line, slip)) for line in lines[:-1]]


def _codes_of(plate, slip, weight, xs, ys):
    """For each rectangle between lines the weight if the plate is on there, else 0, in rows."""
    ink = {cell: True for cell in plate.cells}
    columns = _cells_behind(xs, slip[0])
    return [
        [weight if (x, y) in ink else 0 for x in columns]
        for y in _cells_behind(ys, slip[1])
    ]


def _sheet_rows(job, slips, xs, ys):
    """What shows between the lines."""
    codes = [[0 for _ in xs[:-1]] for _ in ys[:-1]]
    weight = 1
    for plate, slip in zip(job.plates, slips):
        more = _codes_of(plate, slip, weight, xs, ys)
        codes = [[a + b for a, b in zip(row, others)] for row, others in zip(codes, more)]
        weight = weight + weight
    showings = showings_by_code(job)
    return [[showings[code] for code in row] for row in codes]


def sheet_of(job, slips):
    """The sheet of a job with these slips."""
    told = check_slips(job, slips)
    xs = _lines_of(job, told, 0)
    ys = _lines_of(job, told, 1)
    return Sheet(xs, ys, _sheet_rows(job, told, xs, ys))


def table_of(job, slips):
    """The rows of the sheet of a job with these slips."""
    return sheet_of(job, slips).rows


def slot_of(lines, ratio):
    """The number of the last line that is not above the ratio; None beyond the lines."""
    passed = len([line for line in lines if compare(line, ratio) <= 0])
    if passed == 0 or passed == len(lines):
        return None
    return passed - 1


def rectangle_at(sheet, place):
    """The index of the rectangle in which the place lies, None beyond the lines."""
    told = check_place(place)
    for axis, lines in enumerate((sheet.xs, sheet.ys)):
        if told[axis] in lines:
            raise OnCut(axis, lines.index(told[axis]))
    i = slot_of(sheet.xs, told[0])
    j = slot_of(sheet.ys, told[1])
    if i is None or j is None:
        return None
    return (i, j)


def sheet_at(sheet, place):
    """What shows at the place."""
    index = rectangle_at(sheet, place)
    if index is None:
        return ()
    return sheet.rows[index[1]][index[0]]
