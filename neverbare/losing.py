"""How much ink can be lost before a region can be bare."""

from neverbare.needs import deep_needs, lot_of
from neverbare.regions import check_region


def _fewest_needs(job, region):
    """The needs, as bits, of the plates in which the least covered cell is deep; None without."""
    needs = deep_needs(job, check_region(region))
    return min(needs, key=len, default=None)


def bearable_losses(job, region):
    """The greatest number of losses that the region bears, or None if it has no cell."""
    needs = _fewest_needs(job, region)
    return None if needs is None else len(needs) - 1


def breaking_lot(job, region):
    """A lot of the fewest inks without which the region can be bare, None if it has no cell."""
    needs = _fewest_needs(job, region)
    if needs is None:
        return None
    # A plate loses a cell that is deep in it by losing any ink of its need.
    return lot_of(sum([need & -need for need in needs]))
