"""Rooms: the slips of each plate that fit what was seen."""

from neverbare.errors import NoSlips, OnLine
from neverbare.looks import check_looks, told_by
from neverbare.ratios import (
    ZERO, ascending_ratios, broken_of, make_ratio, middle_of_two, plus,
)
from neverbare.shows import is_on, shown_at
from neverbare.slips import check_slips


class Rooms:
    """For each plate all its rooms (u_low, u_high, v_low, v_high), ascending."""

    def __init__(self, rows):
        self.rows = rows


def _shows(job, slips, place, showing):
    """Whether a place lies on no line and has the showing."""
    try:
        return shown_at(job, slips, place) == showing
    except OnLine:
        return False


def does_fit(job, looks, slips):
    """Whether slips fit the looks."""
    told = check_looks(job, looks)
    where = check_slips(job, slips)
    return all([_shows(job, where, place, showing) for place, showing in told])


def _spans(bound, coordinates):
    """The couples of neighbouring slips at which lines of a plate pass coordinates, or bounds."""
    if bound == 0:
        return [(ZERO, ZERO)]
    cuts = [make_ratio(-bound), make_ratio(bound)]
    for ratio in coordinates:
        part = broken_of(ratio)
        cuts.extend([plus(part, make_ratio(whole)) for whole in range(-bound, bound)])
    rims = ascending_ratios(cuts)
    return [(rims[k], rims[k + 1]) for k in range(len(rims) - 1)]


def middle_of_room(room):
    """The slip in the middle of a room."""
    u_low, u_high, v_low, v_high = room
    return (middle_of_two(u_low, u_high), middle_of_two(v_low, v_high))


def _is_right(plate, room, places, wanted):
    """Whether slips in a room put the plate on, or off, where that is wanted; None is anything."""
    slip = middle_of_room(room)
    for place, on in zip(places, wanted):
        if on is not None and is_on(plate, slip, place) != on:
            return False
    return True


def parted_rooms(job, looks, further):
    """For each plate its rooms for checked looks, parted by its lines through further places, too.

    Inside of such a room the plate is on, or off, at each of these places for all slips.
    """
    seen = [place for place, _ in looks]
    told = [told_by(job, showing) for _, showing in looks]
    found = []
    for number, plate in enumerate(job.plates):
        spans_x = _spans(plate.bound[0], [place[0] for place in (*seen, *further)])
        spans_y = _spans(plate.bound[1], [place[1] for place in (*seen, *further)])
        rooms = [(*span_x, *span_y) for span_x in spans_x for span_y in spans_y]
        wanted = [row[number] for row in told]
        right = [room for room in rooms if _is_right(plate, room, seen, wanted)]
        if len(right) == 0:
            raise NoSlips(number)
        found.append(tuple(right))
    return tuple(found)


def rooms_for(job, looks):
    """The Rooms of all plates; refuses looks that no slips fit."""
    return Rooms(parted_rooms(job, check_looks(job, looks), ()))


def find_slips(job, looks):
    """Slips that fit the looks, or None."""
    told = check_looks(job, looks)
    try:
        rows = parted_rooms(job, told, ())
    except NoSlips:
        return None
    return tuple([middle_of_room(rooms[0]) for rooms in rows])
