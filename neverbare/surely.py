"""What is sure at further places of a printed sheet that was looked at."""

from neverbare.errors import BadPlaces, OnLine
from neverbare.looks import check_looks, line_at_all_slips
from neverbare.places import codes_of_layers, pictures_of_codes
from neverbare.ratios import is_sequence
from neverbare.rooms import middle_of_room, parted_rooms
from neverbare.shows import is_on
from neverbare.slips import check_place, is_couple


def check_places(places):
    """The places, 1 to 4, as a tuple of tuples."""
    if not is_sequence(places, 1, 4) or not all([is_couple(place) for place in places]):
        raise BadPlaces()
    return tuple([tuple(place) for place in places])


def check_free(job, places):
    """Refuses places of which one lies on a line of some plate at all slips."""
    for place in places:
        plate = line_at_all_slips(job, place)
        if plate is not None:
            raise OnLine(plate)


def _marks_in_rooms(plate, rooms, places, weight):
    """Couples (marks, slip), the marks of each way in which the plate can be on at the places."""
    found = {}
    for room in rooms:
        slip = middle_of_room(room)
        marks = tuple([weight if is_on(plate, slip, place) else 0 for place in places])
        if marks not in found:
            found[marks] = slip
    return list(found.items())


def pictures_that_fit(job, looks, places):
    """Couples (what places show together, slips), ascending, for slips that fit checked looks."""
    rows = parted_rooms(job, looks, places)
    layers = [
        _marks_in_rooms(plate, rows[number], places, 1 << number)
        for number, plate in enumerate(job.plates)
    ]
    return pictures_of_codes(job, codes_of_layers(layers, len(places)))


def _showings_that_fit(job, looks, place):
    """Couples (showing, slips), ascending, for all that one place shows at slips that fit."""
    told = check_looks(job, looks)
    spot = check_place(place)
    check_free(job, (spot,))
    return [(picture[0], slips) for picture, slips in pictures_that_fit(job, told, (spot,))]


def sure_at(job, looks, place):
    """All showings that the place has at slips that fit, ascending."""
    return tuple([showing for showing, _ in _showings_that_fit(job, looks, place)])


def two_slips(job, looks, place):
    """Two slips that fit and give the place unlike showings, or None if it has one showing."""
    found = _showings_that_fit(job, looks, place)
    if len(found) < 2:
        return None
    return (found[0][1], found[1][1])


def which_look(job, looks, places):
    """The least index of a place that can have the most showings."""
    told = check_looks(job, looks)
    spots = check_places(places)
    check_free(job, spots)
    counts = [len(pictures_that_fit(job, told, (spot,))) for spot in spots]
    return counts.index(max(counts))
