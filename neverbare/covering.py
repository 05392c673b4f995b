"""How many cells of a region a few more inks can make never bare."""

from neverbare.adding import check_few_cells, lacking_marks
from neverbare.errors import BadMany
from neverbare.needs import fewest_of, lot_of, lots_in_order
from neverbare.ratios import is_whole


class Covering:
    """The most cells that can be covered, and all lots of the fewest inks that cover so many."""

    def __init__(self, covered, lots):
        self.covered = covered
        self.lots = lots

    def __eq__(self, other):
        return (isinstance(other, Covering) and self.covered == other.covered
                and self.lots == other.lots)


def _with_cell(found, choices, many):
    """The dict of ink, as bits, and how many cells it is told to cover, with one cell more."""
    more = {marks: covered for marks, covered in found.items()}
    for marks, covered in found.items():
        for lacking in choices:
            both = marks | lacking
            if len(lot_of(both)) <= many:
                more[both] = max(more.get(both, 0), covered + 1)
    return more


def most_covered(job, region, many):
    """A Covering by at most so many inks more."""
    cells = check_few_cells(region)
    if not is_whole(many, 0):
        raise BadMany()
    found = {0: 0}
    for cell in cells:
        found = _with_cell(found, lacking_marks(job, cell), many)
    most = max(list(found.values()))
    lots = lots_in_order([marks for marks, covered in found.items() if covered == most])
    return Covering(most, fewest_of(lots))
