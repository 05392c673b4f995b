"""What the middles of all cells of a region show at once."""

from neverbare.places import as_whole_numbers, is_on_at, pictures_of_cells
from neverbare.ratios import is_sequence, is_whole
from neverbare.regions import check_region, is_one_of
from neverbare.shows import shown_at
from neverbare.slips import check_slips, is_couple, middle_of_cell, whole_slips_of


class BareAt:
    """Whole slips with which the middles of all cells of a region are bare together."""

    def __init__(self, slips):
        self.slips = slips

    def __eq__(self, other):
        return isinstance(other, BareAt) and self.slips == other.slips


class Covered:
    """A plate with ink in a region at all slips: rows of couples (whole slip, cell with ink)."""

    def __init__(self, plate, rows):
        self.plate = plate
        self.rows = rows

    def __eq__(self, other):
        return isinstance(other, Covered) and self.plate == other.plate and self.rows == other.rows


def _inked_cell(plate, slip, cells):
    """The first of the cells over whose middle the plate has ink, or None."""
    for cell in cells:
        if is_on_at(plate, slip, cell):
            return cell
    return None


def all_bare(job, region):
    """A BareAt if the cells of the region are ever bare together, otherwise a Covered."""
    cells = check_region(region)
    bare = []
    for number, plate in enumerate(job.plates):
        rows = [(slip, _inked_cell(plate, slip, cells)) for slip in whole_slips_of(plate)]
        free = [slip for slip, cell in rows if cell is None]
        if len(free) == 0:
            return Covered(number, tuple(rows))
        bare.append(free[0])
    return BareAt(tuple(bare))


def _are_slips_of(plate, things):
    """Whether things of any kind are just all whole slips of the plate, ascending."""
    if not all([is_couple(thing) for thing in things]):
        return False
    return tuple([tuple(thing) for thing in things]) == whole_slips_of(plate)


def covered_fault(job, region, covered):
    """None if a Covered is right, otherwise the first word that applies."""
    cells = check_region(region)
    if not is_whole(covered.plate, 0, len(job.plates) - 1):
        return "plate"
    plate = job.plates[covered.plate]
    if not _are_slips_of(plate, [row[0] for row in covered.rows]):
        return "slips"
    if not all([is_one_of(row[1], cells) for row in covered.rows]):
        return "cell"
    if not all([is_on_at(plate, row[0], row[1]) for row in covered.rows]):
        return "ink"
    return None


def picture_at(job, slips, region):
    """What the middles of the region's cells show with these slips."""
    told = check_slips(job, slips)
    return tuple([shown_at(job, told, middle_of_cell(cell)) for cell in check_region(region)])


def all_pictures(job, region):
    """Couples (picture, least whole slips) for all pictures of the region, ascending."""
    return pictures_of_cells(job, check_region(region))


def slips_for_picture(job, region, picture):
    """The least whole slips that give the region a picture, or None."""
    pictures = all_pictures(job, region)
    if not is_sequence(picture):
        return None
    wanted = tuple([as_whole_numbers(showing) for showing in picture])
    for found, slips in pictures:
        if found == wanted:
            return slips
    return None
