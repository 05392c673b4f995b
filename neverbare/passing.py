"""The stands that are passed between two rows of slips, and how two plates stand apart."""

from neverbare.errors import BadSlipRow
from neverbare.ratios import (
    ONE, ZERO, ascending_ratios, floor_of, greatest_of, least_of, make_ratio, middle_of_two, minus,
    number_pairs, over, plus, times,
)
from neverbare.stands import all_stands, check_slip_row, row_from, stand_of


def _distances(row):
    """The ratios of the row, and how far each two of them stand apart."""
    return list(row) + [minus(row[low], row[high]) for low, high in number_pairs(len(row))]


def _whole_times(start, end):
    """The times from 0 to 1 at which what moves from start to end is whole."""
    way = minus(end, start)
    if way == ZERO:
        return []
    low = -floor_of(minus(ZERO, least_of((start, end))))
    high = floor_of(greatest_of((start, end)))
    return [over(minus(make_ratio(whole), start), way) for whole in range(low, high + 1)]


def _row_at(row, other, when):
    """The row between two rows at a time."""
    return tuple([plus(a, times(when, minus(b, a))) for a, b in zip(row, other)])


def _joined(spans):
    """The spans, neighbouring ones of one stand made one."""
    found = []
    for start, end, stand in spans:
        if len(found) > 0 and found[-1][2] == stand:
            found[-1] = (found[-1][0], end, stand)
        else:
            found.append((start, end, stand))
    return tuple(found)


def stands_between(row, other):
    """Triples (start, end, stand) of all stands passed on the straight way between two rows."""
    first = check_slip_row(row)
    last = check_slip_row(other)
    if len(first) != len(last):
        raise BadSlipRow(0, "many")
    cuts = [ZERO, ONE]
    # A stand can only change where a ratio, or the distance of two, becomes whole.
    for start, end in zip(_distances(first), _distances(last)):
        cuts.extend(_whole_times(start, end))
    instants = ascending_ratios(cuts)
    spans = []
    for k, when in enumerate(instants):
        if k > 0:
            before = instants[k - 1]
            between = middle_of_two(before, when)
            spans.append((before, when, stand_of(_row_at(first, last, between))))
        spans.append((when, when, stand_of(_row_at(first, last, when))))
    return _joined(spans)


def apart_stand(one, other):
    """The floor of the difference of two ratios, and whether the difference is whole."""
    apart = minus(one, other)
    return (floor_of(apart), apart[1] == 1)


def apart_of(row):
    """The apart stands of each two ratios of a row, in order."""
    told = check_slip_row(row)
    return tuple([apart_stand(told[low], told[high]) for low, high in number_pairs(len(told))])


def all_apart(bounds):
    """Couples (apart, row) for all that apart_of gives within the bounds, ascending."""
    found = {}
    for stand in all_stands(bounds):
        row = row_from(stand)
        apart = apart_of(row)
        if apart not in found:
            found[apart] = row
    return tuple([(apart, found[apart]) for apart in sorted(list(found))])
