"""Whether a group of plates hangs together, at told slips and at all slips."""

from neverbare.errors import NoPlate, OnLine
from neverbare.pieces import check_group, does_count, holes_on, piece_at, pieces_on
from neverbare.ratios import floor_of, is_whole, least_of, make_ratio, middle_of_two, minus, plus
from neverbare.samples import apart_samples
from neverbare.sheets import sheet_of
from neverbare.shows import shown_at
from neverbare.slips import are_slips, is_couple
from neverbare.stands import row_of


class Together:
    """The group hangs together at all slips: the number of samples that tell it."""

    def __init__(self, samples):
        self.samples = samples

    def __eq__(self, other):
        return isinstance(other, Together) and self.samples == other.samples


class Parted:
    """Slips, and two places that lie in unlike pieces there."""

    def __init__(self, slips, place, other):
        self.slips = slips
        self.place = place
        self.other = other

    def __eq__(self, other):
        return (isinstance(other, Parted) and self.slips == other.slips
                and self.place == other.place and self.other == other.other)


class Counts:
    """The least and the greatest number over all slips, each with slips that have it."""

    def __init__(self, least, least_slips, most, most_slips):
        self.least = least
        self.least_slips = least_slips
        self.most = most
        self.most_slips = most_slips

    def __eq__(self, other):
        return (isinstance(other, Counts) and self.least == other.least
                and self.least_slips == other.least_slips and self.most == other.most
                and self.most_slips == other.most_slips)


def _free_between(row, low, high):
    """A coordinate between two at which no plate has a line: below the first line, if any."""
    lines = [plus(make_ratio(floor_of(minus(low, ratio)) + 1), ratio) for ratio in row]
    return middle_of_two(low, least_of([high] + lines))


def _free_place(sheet, slips, index):
    """A place on no line of any plate in a rectangle of the sheet."""
    i, j = index
    return (
        _free_between(row_of(slips, 0), sheet.xs[i], sheet.xs[i + 1]),
        _free_between(row_of(slips, 1), sheet.ys[j], sheet.ys[j + 1]),
    )


def always_together(job, group):
    """A Together if the group hangs together at all slips, otherwise a Parted."""
    which = check_group(job, group)
    samples = apart_samples(job)
    for slips in samples:
        sheet = sheet_of(job, slips)
        pieces = pieces_on(sheet, which)
        if len(pieces) > 1:
            place = _free_place(sheet, slips, pieces[0][0])
            return Parted(slips, place, _free_place(sheet, slips, pieces[1][0]))
    return Together(len(samples))


def _is_counting_place(job, group, slips, place):
    """Whether a thing of any kind is a place on no line that counts for the group."""
    if not is_couple(place):
        return False
    try:
        return does_count(shown_at(job, slips, place), group)
    except OnLine:
        return False


def parted_fault(job, group, parted):
    """None if a thing is a right Parted, otherwise the first word that applies."""
    which = check_group(job, group)
    if not isinstance(parted, Parted):
        return "parted"
    slips = parted.slips
    if not are_slips(job, slips):
        return "slips"
    if not _is_counting_place(job, which, slips, parted.place):
        return "place"
    if not _is_counting_place(job, which, slips, parted.other):
        return "other"
    one = piece_at(job, slips, which, parted.place)
    return "piece" if one == piece_at(job, slips, which, parted.other) else None


def counts_at_all(job, group):
    """Triples (slips, number of pieces, number of holes) for all samples, in order."""
    which = check_group(job, group)
    found = []
    for slips in apart_samples(job):
        sheet = sheet_of(job, slips)
        found.append((slips, len(pieces_on(sheet, which)), len(holes_on(sheet, which))))
    return tuple(found)


def _counts_in(rows):
    """The Counts of couples (slips, number)."""
    least = rows[0]
    most = rows[0]
    for row in rows:
        if row[1] < least[1]:
            least = row
        if row[1] > most[1]:
            most = row
    return Counts(least[1], least[0], most[1], most[0])


def piece_counts(job, group):
    """The least and the greatest number of pieces over all slips."""
    return _counts_in([(slips, pieces) for slips, pieces, _ in counts_at_all(job, group)])


def hole_counts(job, group):
    """The least and the greatest number of holes over all slips."""
    return _counts_in([(slips, holes) for slips, _, holes in counts_at_all(job, group)])


def holding_slips(job, group, plate):
    """The first sample at which this plate alone holds the group together, or None."""
    which = check_group(job, group)
    if not is_whole(plate) or plate not in which:
        raise NoPlate(plate)
    others = [one for one in which if one != plate]
    for slips in apart_samples(job):
        sheet = sheet_of(job, slips)
        if len(pieces_on(sheet, which)) < 2 and len(pieces_on(sheet, others)) > 1:
            return slips
    return None
