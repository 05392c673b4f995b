"""Looks: what is seen at places of a printed sheet."""

from neverbare.errors import BadLook, NoShowing
from neverbare.ratios import is_ascending, is_sequence
from neverbare.shows import showings_by_code
from neverbare.slips import is_couple


def _codes_that_show(job, showing):
    """All choices of plates that are on, as bits, which show a thing of any kind."""
    if not is_ascending(showing, len(job.plates)):
        return []
    wanted = tuple(showing)
    return [code for code, shown in enumerate(showings_by_code(job)) if shown == wanted]


def _told_of(codes, plate):
    """Whether a plate is on in every choice (True), in none (False), or in some (None)."""
    bits = [(code >> plate) & 1 for code in codes]
    if 0 not in bits:
        return True
    return False if 1 not in bits else None


def told_by(job, showing):
    """For each plate whether the showing tells that it is on (True) or off (False), else None."""
    codes = _codes_that_show(job, showing)
    if len(codes) == 0:
        raise NoShowing()
    return tuple([_told_of(codes, plate) for plate in range(len(job.plates))])


def line_at_all_slips(job, place):
    """The least plate with a line through the place at all slips, or None."""
    for number, plate in enumerate(job.plates):
        for axis in (0, 1):
            if plate.bound[axis] == 0 and place[axis][1] == 1:
                return number
    return None


def _check_look(job, index, look):
    """The look as a tuple."""
    if not is_sequence(look, 2, 2):
        raise BadLook(index, "look")
    place, showing = look
    if not is_couple(place):
        raise BadLook(index, "place")
    if line_at_all_slips(job, place) is not None:
        raise BadLook(index, "line")
    if len(_codes_that_show(job, showing)) == 0:
        raise BadLook(index, "showing")
    return (tuple(place), tuple(showing))


def check_looks(job, looks):
    """The looks, at most 6, as a tuple of couples (place, showing)."""
    if not is_sequence(looks, 0, 6):
        raise BadLook(0, "many")
    return tuple([_check_look(job, index, look) for index, look in enumerate(looks)])
