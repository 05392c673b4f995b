"""Ways of counting rectangles from one place to another one."""

from neverbare.pieces import beside, check_group, counting_rectangles
from neverbare.ratios import is_sequence, is_whole
from neverbare.sheets import rectangle_at, sheet_of
from neverbare.shows import on_plates
from neverbare.slips import check_place, check_slips


def _counts_and_ends(job, slips, group, place, other):
    """Which rectangles count, and those of the two places, once all is checked."""
    told = check_slips(job, slips)
    which = check_group(job, group)
    spots = (check_place(place), check_place(other))
    for spot in spots:
        # Refuses a place on a line of any plate, which the sheet of inked plates cannot tell.
        on_plates(job, told, spot)
    sheet = sheet_of(job, told)
    counts = counting_rectangles(sheet, which)
    return (counts, rectangle_at(sheet, spots[0]), rectangle_at(sheet, spots[1]))


def _way_back(before, last):
    """The way from the first rectangle to the last one, from what stands before each."""
    way = [last]
    while before[way[-1]] is not None:
        way.append(before[way[-1]])
    return tuple(way[::-1])


def way_between(job, slips, group, place, other):
    """A way of counting rectangles from one place to the other, or None if there is none."""
    counts, first, last = _counts_and_ends(job, slips, group, place, other)
    if not counts.get(first, False):
        return None
    before = {first: None}
    found = [first]
    at = 0
    while at < len(found):
        here = found[at]
        if here == last:
            return _way_back(before, last)
        for index in beside(here):
            if index not in before and counts.get(index, False):
                before[index] = here
                found.append(index)
        at += 1
    return None


def _as_index(counts, thing):
    """A thing of any kind as a rectangle of the sheet, or None."""
    if not is_sequence(thing, 2, 2) or not all([is_whole(part) for part in thing]):
        return None
    index = (thing[0], thing[1])
    return index if index in counts else None


def _step_fault(counts, before, thing):
    """None if a thing can stand behind a rectangle, or first, in a way, otherwise a word."""
    index = _as_index(counts, thing)
    if index is None:
        return "rectangle"
    if not counts[index]:
        return "counts"
    if before is not None and index not in beside(before):
        return "step"
    return None


def between_fault(job, slips, group, place, other, way):
    """None if a way leads from one place to the other, otherwise the first word that applies."""
    counts, first, last = _counts_and_ends(job, slips, group, place, other)
    if not is_sequence(way, 1):
        return "way"
    before = None
    for thing in way:
        word = _step_fault(counts, before, thing)
        if word is not None:
            return word
        before = tuple(thing)
    return None if tuple(way[0]) == first and before == last else "ends"
