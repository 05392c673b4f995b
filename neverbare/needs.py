"""Lots of ink, and what a plate needs for a sheet cell to be deep in it."""

from neverbare.cells import is_cell, near_cells
from neverbare.errors import BadCell, BadChoice, BadLot, StillBare
from neverbare.jobs import check_plate, with_all_cells
from neverbare.ratios import is_sequence, is_whole
from neverbare.regions import bare_cells, check_region


def _is_ink(job, thing):
    """Whether a thing of any kind is a sequence of a plate number and a cell of the field."""
    if not is_sequence(thing, 2, 2) or not is_cell(thing[1]):
        return False
    if not is_whole(thing[0], 0, len(job.plates) - 1):
        return False
    x, y = thing[1]
    return 0 <= x < job.width and 0 <= y < job.height


def has_ink(job, plate, cell):
    """Whether the job has an ink."""
    return cell in job.plates[plate].cells


def _checked_lot(job, lot, word, inked):
    """The lot as a tuple; the word is for an ink that the job has, if inked, or has not."""
    if not is_sequence(lot, 0, 192):
        raise BadLot(0, "many")
    found = []
    for index, thing in enumerate(lot):
        if not _is_ink(job, thing):
            raise BadLot(index, "ink")
        ink = (thing[0], tuple(thing[1]))
        if index > 0 and ink <= found[-1]:
            raise BadLot(index, "order")
        if word is not None and has_ink(job, ink[0], ink[1]) == inked:
            raise BadLot(index, word)
        found.append(ink)
    return tuple(found)


def check_lot(job, lot):
    """The lot of inks as a tuple."""
    return _checked_lot(job, lot, None, False)


def with_lot(job, lot):
    """The job with a lot of inks added."""
    rows = [list(plate.cells) for plate in job.plates]
    for plate, cell in _checked_lot(job, lot, "inked", True):
        rows[plate].append(cell)
    return with_all_cells(job, rows)


def without_lot(job, lot):
    """The job with a lot of inks struck."""
    told = _checked_lot(job, lot, "lacking", False)
    return with_all_cells(job, [
        [cell for cell in plate.cells if (number, cell) not in told]
        for number, plate in enumerate(job.plates)
    ])


def ink_of(job):
    """The lot of all ink of the job."""
    return tuple([
        (number, cell) for number, plate in enumerate(job.plates) for cell in plate.cells
    ])


def marks_of(lot):
    """The inks of a lot as bits: the greater an ink, the greater its bit."""
    return sum([1 << (64 * plate + 8 * x + y) for plate, (x, y) in lot])


def lot_of(marks):
    """The lot of the inks that these bits tell."""
    numbers = [bit for bit in range(marks.bit_length()) if (marks >> bit) & 1 == 1]
    return tuple([(bit // 64, (bit // 8 % 8, bit % 8)) for bit in numbers])


def lots_in_order(rows):
    """The unlike lots that rows of bits tell: those with fewer inks first, then ascending."""
    lots = [lot_of(marks) for marks in sorted(set(rows))]
    return sorted(lots, key=lambda lot: (len(lot), lot))


def fewest_of(lots):
    """Those with the fewest inks of lots in order, ascending."""
    return tuple([lot for lot in lots if len(lot) == len(lots[0])])


def _need(job, plate, cell):
    """The need of a plate for a sheet cell, or None if it cannot be met."""
    need = near_cells(cell, job.plates[plate].bound)
    field = job.field
    return need if all([one in field for one in need]) else None


def needs_of(job, cell):
    """The needs for a sheet cell that can be met, as bits, in the order of the plates."""
    needs = [(plate, _need(job, plate, cell)) for plate in range(len(job.plates))]
    return [
        marks_of([(plate, one) for one in need]) for plate, need in needs if need is not None
    ]


def deep_needs(job, cells):
    """For each sheet cell the needs of the plates in which it is deep, as bits."""
    ink = marks_of(ink_of(job))
    return [[need for need in needs_of(job, cell) if need & ~ink == 0] for cell in cells]


def check_deep(job, cells):
    """Refuses cells of which one can be bare."""
    bare = bare_cells(job, cells)
    if len(bare) > 0:
        raise StillBare(bare[0])


def _lacking(job, plate, cell):
    """What a plate lacks for a sheet cell, or None if its need cannot be met."""
    need = _need(job, plate, cell)
    if need is None:
        return None
    return tuple([one for one in need if not has_ink(job, plate, one)])


def lacking_cells(job, plate, cell):
    """The cells that a plate lacks for a sheet cell, or None if its need cannot be met."""
    number = check_plate(job, plate)
    if not is_cell(cell):
        raise BadCell(cell)
    return _lacking(job, number, cell)


def _check_choice(job, choice, many):
    """The choice of so many plates as a tuple."""
    if not is_sequence(choice, many, many):
        raise BadChoice()
    if not all([is_whole(plate, 0, len(job.plates) - 1) for plate in choice]):
        raise BadChoice()
    return tuple(choice)


def ink_for(job, region, choice):
    """The lot that the chosen plates lack for the region's cells, or None if it cannot be met."""
    cells = check_region(region)
    found = []
    for cell, plate in zip(cells, _check_choice(job, choice, len(cells))):
        lacking = _lacking(job, plate, cell)
        if lacking is None:
            return None
        found.extend([(plate, one) for one in lacking])
    return tuple(sorted(set(found)))


def helping_ink(job, region):
    """The lot of all ink that some plate lacks for some cell of the region that can be bare."""
    found = []
    for cell in bare_cells(job, region):
        for plate in range(len(job.plates)):
            lacking = _lacking(job, plate, cell)
            if lacking is not None:
                found.extend([(plate, one) for one in lacking])
    return tuple(sorted(set(found)))
