"""What two sheets show alike, and the areas of what a sheet shows."""

from neverbare.ratios import ZERO, merged_ratios, middle_of_two, minus, plus, times
from neverbare.sheets import Sheet, slot_of


def _showing_at(sheet, i, j):
    """What the rectangle with this index shows; (), the bare rim, where there is none."""
    if i is None or j is None or i < 0 or j < 0:
        return ()
    if i > len(sheet.xs) - 2 or j > len(sheet.ys) - 2:
        return ()
    return sheet.rows[j][i]


def _rows_between(sheet, xs, ys):
    """What the sheet shows between lines among which all its own ones are."""
    columns = [slot_of(sheet.xs, line) for line in xs[:-1]]
    rows = [slot_of(sheet.ys, line) for line in ys[:-1]]
    return [[_showing_at(sheet, i, j) for i in columns] for j in rows]


def parts_at(one, other):
    """The middle of the first rectangle in which two sheets differ, None if they never do."""
    xs = merged_ratios(one.xs, other.xs)
    ys = merged_ratios(one.ys, other.ys)
    mine = _rows_between(one, xs, ys)
    yours = _rows_between(other, xs, ys)
    for j in range(len(mine)):
        for i in range(len(mine[j])):
            if mine[j][i] != yours[j][i]:
                return (middle_of_two(xs[i], xs[i + 1]), middle_of_two(ys[j], ys[j + 1]))
    return None


def same_picture(one, other):
    """Whether two sheets show the same at every place on no line of either."""
    return parts_at(one, other) is None


def _kept_columns(sheet):
    """The numbers of the lines along x at which something changes."""
    high = len(sheet.rows)
    return [
        i for i in range(len(sheet.xs))
        if any([_showing_at(sheet, i - 1, j) != _showing_at(sheet, i, j) for j in range(high)])
    ]


def _kept_rows(sheet):
    """The numbers of the lines along y at which something changes."""
    wide = len(sheet.xs) - 1
    return [
        j for j in range(len(sheet.ys))
        if any([_showing_at(sheet, i, j - 1) != _showing_at(sheet, i, j) for i in range(wide)])
    ]


def plain_of(sheet):
    """The sheet with the fewest lines that shows the same picture."""
    columns = _kept_columns(sheet)
    rows = _kept_rows(sheet)
    xs = [sheet.xs[i] for i in columns]
    ys = [sheet.ys[j] for j in rows]
    return Sheet(xs, ys, [[sheet.rows[j][i] for i in columns[:-1]] for j in rows[:-1]])


def areas_of(sheet):
    """Couples (showing, area) for all showings of the sheet's rectangles but the bare one."""
    areas = {}
    for j, row in enumerate(sheet.rows):
        high = minus(sheet.ys[j + 1], sheet.ys[j])
        for i, showing in enumerate(row):
            if showing != ():
                wide = minus(sheet.xs[i + 1], sheet.xs[i])
                areas[showing] = plus(areas.get(showing, ZERO), times(wide, high))
    return tuple([(showing, areas[showing]) for showing in sorted(list(areas))])
