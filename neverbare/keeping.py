"""Least ink to keep, so that a region stays never bare."""

from neverbare.adding import check_few_cells, irreducible_lots
from neverbare.needs import check_deep, deep_needs, fewest_of


def _lots_to_keep(job, region):
    """All irreducible kept lots, in order."""
    cells = check_few_cells(region)
    check_deep(job, cells)
    return irreducible_lots(deep_needs(job, cells))


def all_kept(job, region):
    """Yields all irreducible kept lots, those with fewer inks first."""
    yield from _lots_to_keep(job, region)


def least_kept(job, region):
    """All kept lots with the fewest inks, ascending."""
    return fewest_of(_lots_to_keep(job, region))
