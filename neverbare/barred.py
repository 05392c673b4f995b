"""Least ink to add, so that a region is never bare and bars hold."""

from neverbare.bars import bar_holds, check_bars
from neverbare.errors import TooMany
from neverbare.needs import check_lot, helping_ink, with_lot
from neverbare.ratios import number_choices
from neverbare.regions import bare_cells, check_region


def _check_candidates(job, cells, candidates):
    """The lot of at most 8 inks to choose from."""
    if candidates is None:
        lot = helping_ink(job, cells)
    else:
        # Refuses ink that the job has, which a lot alone may tell.
        with_lot(job, candidates)
        lot = check_lot(job, candidates)
    if len(lot) > 8:
        raise TooMany(8)
    return lot


def _does_work(job, cells, bars):
    """Whether the cells are never bare and all bars hold."""
    if len(bare_cells(job, cells)) > 0:
        return False
    for bar in bars:
        if not bar_holds(job, bar):
            return False
    return True


def least_barred(job, region, bars, candidates=None):
    """All lots of the fewest candidates that make the region never bare with all bars held."""
    cells = check_region(region)
    told = check_bars(job, bars)
    lot = _check_candidates(job, cells, candidates)
    for size in range(len(lot) + 1):
        choices = number_choices(len(lot), size)
        lots = [tuple([lot[place] for place in choice]) for choice in choices]
        found = [chosen for chosen in lots if _does_work(with_lot(job, chosen), cells, told)]
        if len(found) > 0:
            return tuple(found)
    return ()
