"""Jobs that can be compared, other orders of printing, and places that show unlike things."""

from neverbare.errors import BadOrder, BadPlace, BadSlips, NotLike, OnLine
from neverbare.ratios import is_sequence, is_whole
from neverbare.shows import on_plates, shown_at


class Unlike:
    """Slips and a place, and the two unlike showings that it has in one way and in another."""

    def __init__(self, slips, place, showing, other):
        self.slips = slips
        self.place = place
        self.showing = showing
        self.other = other

    def __eq__(self, other):
        return (isinstance(other, Unlike) and self.slips == other.slips
                and self.place == other.place and self.showing == other.showing
                and self.other == other.other)


def check_comparable(one, other):
    """Refuses two jobs of which plates, hiding or bounds are unlike."""
    if (one.width, one.height) != (other.width, other.height):
        raise NotLike("field")
    if len(one.plates) != len(other.plates):
        raise NotLike("many")
    if [plate.hiding for plate in one.plates] != [plate.hiding for plate in other.plates]:
        raise NotLike("hiding")
    if [plate.bound for plate in one.plates] != [plate.bound for plate in other.plates]:
        raise NotLike("bound")


def check_order(job, order):
    """The order of printing as a tuple."""
    if not is_sequence(order, len(job.plates), len(job.plates)):
        raise BadOrder("many")
    for at, plate in enumerate(order):
        if not is_whole(plate, 0, len(job.plates) - 1) or plate in order[:at]:
            raise BadOrder("plate")
    return tuple(order)


def shown_in_order(job, order, on):
    """The showing of the plates that are on, if the job is printed in this order."""
    shown = []
    for plate in order[::-1]:
        if plate in on:
            shown.append(plate)
            if job.plates[plate].hiding:
                break
    return tuple(sorted(shown))


def shown_by(job, order, slips, place):
    """The showing of the place if the job is printed in this order."""
    told = check_order(job, order)
    return shown_in_order(job, told, on_plates(job, slips, place))


def sight_fault(job, slips, place):
    """None if things of any kind are slips and a place on no line, otherwise the first word."""
    try:
        shown_at(job, slips, place)
    except BadSlips:
        return "slips"
    except BadPlace:
        return "place"
    except OnLine:
        return "line"
    return None
