"""Whether the places of a region are ever mixed."""

from neverbare.places import can_show, is_deep, is_grown
from neverbare.ratios import is_sequence, is_whole, number_pairs
from neverbare.regions import are_cells, check_region


class Unmixed:
    """A region is never mixed: rows of couples (cell, reasons for all couples of plates)."""

    def __init__(self, rows):
        self.rows = rows

    def __eq__(self, other):
        return isinstance(other, Unmixed) and self.rows == other.rows


class Mixed:
    """A cell of a region whose middle is mixed with these whole slips."""

    def __init__(self, cell, slips):
        self.cell = cell
        self.slips = slips

    def __eq__(self, other):
        return isinstance(other, Mixed) and self.cell == other.cell and self.slips == other.slips


def _why_apart(job, cell, low, high):
    """The word and the plate for which two plates never mix at the cell, or None if they can."""
    plates = job.plates
    if plates[high].hiding:
        return ("hides", high)
    for plate in (low, high):
        if not is_grown(plates[plate], cell):
            return ("off", plate)
    for plate in range(low + 1, len(plates)):
        if plates[plate].hiding and is_deep(plates[plate], cell):
            return ("under", plate)
    return None


def _reasons(job, cell):
    """Why no two plates mix at the cell, or None if some do."""
    found = []
    for low, high in number_pairs(len(job.plates)):
        why = _why_apart(job, cell, low, high)
        if why is None:
            return None
        found.append((low, high, why[0], why[1]))
    return tuple(found)


def never_mixed(job, region):
    """An Unmixed if no place of the region is mixed at any slips, otherwise a Mixed."""
    rows = []
    for cell in check_region(region):
        reasons = _reasons(job, cell)
        if reasons is None:
            return Mixed(cell, can_show(job, cell, "mixed"))
        rows.append((cell, reasons))
    return Unmixed(tuple(rows))


def _are_pairs(job, reasons):
    """Whether a thing is a sequence of reasons that name all couples of plates in order."""
    if not is_sequence(reasons):
        return False
    if not all([is_whole(plate) for reason in reasons for plate in reason[:2]]):
        return False
    return [tuple(reason[:2]) for reason in reasons] == number_pairs(len(job.plates))


def _is_true(job, cell, reason):
    """Whether a reason of a cell is true."""
    if len(reason) != 4:
        return False
    low, high, word, plate = reason
    if not is_whole(plate, 0, len(job.plates) - 1):
        return False
    told = job.plates[plate]
    if word == "hides":
        return plate == high and told.hiding
    if word == "off":
        return plate in (low, high) and not is_grown(told, cell)
    return word == "under" and plate > low and told.hiding and is_deep(told, cell)


def unmixed_fault(job, region, unmixed):
    """None if every reason of an Unmixed is true, otherwise the first wrong row and a word."""
    cells = check_region(region)
    if not are_cells([row[0] for row in unmixed.rows], cells):
        return (0, "cells")
    for index, (cell, reasons) in enumerate(unmixed.rows):
        if not _are_pairs(job, reasons):
            return (index, "pairs")
        if not all([_is_true(job, cell, reason) for reason in reasons]):
            return (index, "reason")
    return None
