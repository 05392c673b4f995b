"""Least ink to add, so that a region is never bare."""

from neverbare.errors import BadLosses, BadLot, TooMany
from neverbare.needs import (
    deep_needs, fewest_of, ink_of, lots_in_order, marks_of, needs_of, with_lot,
)
from neverbare.ratios import is_whole, number_choices
from neverbare.regions import check_region


def check_few_cells(region):
    """The unlike cells of a region of at most 6, ascending."""
    cells = check_region(region)
    if len(cells) > 6:
        raise TooMany(6)
    return cells


def _least_marks(rows):
    """The unlike rows of bits that hold no other one."""
    found = []
    # What a row of bits holds is no greater number, so it comes before the row.
    for marks in sorted(set(rows)):
        if not any([marks & part == part for part in found]):
            found.append(marks)
    return found


def irreducible_lots(choices):
    """All lots that hold one of each choice's rows of bits, none needless, in order."""
    found = [0]
    for choice in choices:
        found = _least_marks([marks | more for marks in found for more in choice])
    return lots_in_order(found)


def lacking_marks(job, cell):
    """What the plates lack for a sheet cell, as bits, for each need that can be met."""
    ink = marks_of(ink_of(job))
    return [need & ~ink for need in needs_of(job, cell)]


def _ways_to_cover(job, cell, many):
    """What each choice of so many plates lacks for a sheet cell, as bits."""
    lacking = lacking_marks(job, cell)
    return [
        # No two plates need one ink, so the bits of their needs do not meet.
        sum([lacking[place] for place in choice])
        for choice in number_choices(len(lacking), many)
    ]


def _check_task(region, losses):
    """The cells of a small region; the number of losses is checked behind them."""
    cells = check_few_cells(region)
    if not is_whole(losses, 0, 2):
        raise BadLosses()
    return cells


def _lots_that_work(job, region, losses):
    """All irreducible lots, in order."""
    cells = _check_task(region, losses)
    return irreducible_lots([_ways_to_cover(job, cell, losses + 1) for cell in cells])


def all_added(job, region, *, losses=0):
    """Yields all irreducible lots that make the region bear these losses, the small ones first."""
    yield from _lots_that_work(job, region, losses)


def least_added(job, region, *, losses=0):
    """All lots of the fewest inks that make the region bear these losses, ascending."""
    return fewest_of(_lots_that_work(job, region, losses))


def added_fault(job, region, lot, *, losses=0):
    """None if a lot is one of the fewest inks that works, otherwise the first word that applies."""
    cells = _check_task(region, losses)
    try:
        more = with_lot(job, lot)
    except BadLot:
        return "lot"
    if not all([len(needs) > losses for needs in deep_needs(more, cells)]):
        return "bare"
    lots = _lots_that_work(job, cells, losses)
    told = marks_of(lot)
    if told not in [marks_of(one) for one in lots]:
        return "needless"
    return "more" if len(lot) > len(lots[0]) else None
