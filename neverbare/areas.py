"""Areas of kinds in regions: at told slips, and the least and greatest over all slips."""

from neverbare.errors import BadArea
from neverbare.kinds import check_kind
from neverbare.places import codes_of_cells, is_on_at, kinds_by_code
from neverbare.ratios import (
    compare, is_ratio, is_whole, make_ratio, minus, over, plus, sum_of, times,
)
from neverbare.regions import are_whole_slips, check_region
from neverbare.slips import check_slips
from neverbare.spots import corner_slips, stands_of
from neverbare.stands import row_of, shares_of


class Extent:
    """An area and slips that have it."""

    def __init__(self, size, slips):
        self.size = size
        self.slips = slips

    def __eq__(self, other):
        return isinstance(other, Extent) and self.size == other.size and self.slips == other.slips


def _code_at(job, slips, cell):
    """The code of the plates that are on over the middle of a sheet cell at whole slips."""
    code = 0
    for number, plate in enumerate(job.plates):
        if is_on_at(plate, slips[number], cell):
            code = code | (1 << number)
    return code


def _size_at(job, slips, cells, kind):
    """The number of the cells that show the kind at whole slips."""
    wanted = kinds_by_code(job, kind)
    return len([cell for cell in cells if wanted[_code_at(job, slips, cell)]])


def whole_parts(job, slips, region, kind):
    """Tuples (whole slips, share, size) of which the area is made, ascending."""
    told = check_slips(job, slips)
    cells = check_region(region)
    wanted = check_kind(job, kind)
    shares_x = shares_of(row_of(told, 0))
    shares_y = shares_of(row_of(told, 1))
    found = []
    for share_x, row in zip(shares_x, corner_slips(stands_of(job, told))):
        for share_y, whole in zip(shares_y, row):
            found.append((whole, times(share_x, share_y), _size_at(job, whole, cells, wanted)))
    return tuple(sorted(found))


def area_at(job, slips, region, kind):
    """The area of the places of the region's cells that show the kind."""
    parts = whole_parts(job, slips, region, kind)
    return sum_of([times(share, make_ratio(size)) for _, share, size in parts])


def _extents(job, cells, kind):
    """The least and the greatest area, each with the least whole slips that have it."""
    wanted = kinds_by_code(job, kind)
    least = None
    most = None
    for codes, slips in codes_of_cells(job, cells):
        size = len([code for code in codes if wanted[code]])
        if least is None or size < least.size:
            least = Extent(size, slips)
        if most is None or size > most.size:
            most = Extent(size, slips)
    return (least, most)


def _checked_extents(job, region, kind):
    """The least and the greatest area, once the region and the kind are checked."""
    cells = check_region(region)
    return _extents(job, cells, check_kind(job, kind))


def greatest_area(job, region, kind):
    """The greatest area over all slips, with the least whole slips that have it."""
    return _checked_extents(job, region, kind)[1]


def least_area(job, region, kind):
    """The least area over all slips, with the least whole slips that have it."""
    return _checked_extents(job, region, kind)[0]


def _is_size(job, region, kind, extent):
    """Whether the size of an extent is the area at its whole slips."""
    cells = check_region(region)
    return is_whole(extent.size) and extent.size == _size_at(job, extent.slips, cells, kind)


def greatest_fault(job, region, kind, extent):
    """None if an Extent is a greatest area, otherwise the first word that applies."""
    most = _checked_extents(job, region, kind)[1]
    if not are_whole_slips(job, extent.slips):
        return "slips"
    if not _is_size(job, region, kind, extent):
        return "size"
    return "greater" if most.size > extent.size else None


def least_fault(job, region, kind, extent):
    """None if an Extent is a least area, otherwise the first word that applies."""
    least = _checked_extents(job, region, kind)[0]
    if not are_whole_slips(job, extent.slips):
        return "slips"
    if not _is_size(job, region, kind, extent):
        return "size"
    return "lesser" if least.size < extent.size else None


def _whole_way(first, last):
    """Whole slips from the first to the last ones; from each to the next one number moves by 1."""
    now = [ratio[0] for slip in first for ratio in slip]
    ends = [ratio[0] for slip in last for ratio in slip]
    way = [first]
    for at, end in enumerate(ends):
        step = 1 if end > now[at] else -1
        while now[at] != end:
            now[at] = now[at] + step
            way.append(tuple([
                ((now[2 * plate], 1), (now[2 * plate + 1], 1)) for plate in range(len(first))
            ]))
    return way


def _slips_between(one, other, when):
    """The slips on the straight way from one to the other at a time from 0 to 1."""
    return tuple([
        tuple([plus(start, times(when, minus(end, start))) for start, end in zip(slip, further)])
        for slip, further in zip(one, other)
    ])


def slips_of_area(job, region, kind, area):
    """Slips at which the area is just this ratio, or None."""
    cells = check_region(region)
    wanted = check_kind(job, kind)
    if not is_ratio(area):
        raise BadArea()
    least, most = _extents(job, cells, wanted)
    # While one number moves from whole to whole, the area changes evenly: so all between comes.
    last = least.slips
    size = make_ratio(least.size)
    for slips in _whole_way(least.slips, most.slips):
        before = size
        size = make_ratio(_size_at(job, slips, cells, wanted))
        if area == size:
            return slips
        if compare(before, area) * compare(area, size) > 0:
            return _slips_between(last, slips, over(minus(area, before), minus(size, before)))
        last = slips
    return None
