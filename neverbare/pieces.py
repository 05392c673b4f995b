"""Pieces and holes of a group of plates at told slips."""

from neverbare.errors import BadGroup
from neverbare.ratios import is_ascending
from neverbare.sheets import rectangle_at, sheet_of
from neverbare.shows import on_plates
from neverbare.slips import check_place, check_slips


def check_group(job, group):
    """The group of plates as a tuple."""
    if not is_ascending(group, len(job.plates)) or len(group) == 0:
        raise BadGroup()
    return tuple(group)


def does_count(showing, group):
    """Whether a showing counts for a group of plates."""
    return any([plate in showing for plate in group])


def counting_rectangles(sheet, group):
    """A dict of the rectangles of the sheet, ascending: whether each one counts for the group."""
    wide = max(len(sheet.xs) - 1, 0)
    high = max(len(sheet.ys) - 1, 0)
    return {
        (i, j): does_count(sheet.rows[j][i], group) for i in range(wide) for j in range(high)
    }


def beside(index):
    """The rectangles that share a side with one, ascending, if the sheet has them."""
    i, j = index
    return [(i - 1, j), (i, j - 1), (i, j + 1), (i + 1, j)]


def _all_held(first, counts):
    """All rectangles that hold together with one and count, or do not count, as it does."""
    found = [first]
    reached = {first: True}
    at = 0
    while at < len(found):
        here = found[at]
        for index in beside(here):
            if index not in reached and counts.get(index) == counts[first]:
                reached[index] = True
                found.append(index)
        at += 1
    return tuple(sorted(found))


def parted_rectangles(counts, right):
    """All sets of rectangles that hold together, of those that count or of those that do not."""
    found = []
    known = {}
    for index in list(counts):
        if counts[index] == right and index not in known:
            piece = _all_held(index, counts)
            found.append(piece)
            for one in piece:
                known[one] = True
    return tuple(found)


def pieces_on(sheet, group):
    """All pieces of a group on a sheet."""
    return parted_rectangles(counting_rectangles(sheet, group), True)


def _is_at_rim(sheet, index):
    """Whether a rectangle lies at the rim of the sheet."""
    i, j = index
    return i == 0 or j == 0 or i == len(sheet.xs) - 2 or j == len(sheet.ys) - 2


def holes_on(sheet, group):
    """All holes of a group on a sheet."""
    found = parted_rectangles(counting_rectangles(sheet, group), False)
    return tuple([
        hole for hole in found if not any([_is_at_rim(sheet, index) for index in hole])
    ])


def pieces_at(job, slips, group):
    """All pieces of a group at told slips, each as its rectangles, ascending."""
    sheet = sheet_of(job, slips)
    return pieces_on(sheet, check_group(job, group))


def holes_at(job, slips, group):
    """All holes of a group at told slips, each as its rectangles, ascending."""
    sheet = sheet_of(job, slips)
    return holes_on(sheet, check_group(job, group))


def piece_number(pieces, index):
    """The number of the piece that has a rectangle, or None."""
    for number, piece in enumerate(pieces):
        if index in piece:
            return number
    return None


def piece_at(job, slips, group, place):
    """The number of the piece in which the place lies, None if it does not count."""
    told = check_slips(job, slips)
    which = check_group(job, group)
    spot = check_place(place)
    # Refuses a place on a line of any plate, which the sheet of inked plates cannot tell.
    on_plates(job, told, spot)
    sheet = sheet_of(job, told)
    return piece_number(pieces_on(sheet, which), rectangle_at(sheet, spot))
