"""What a place of the sheet shows at told slips."""

from neverbare.errors import BadOn, OnLine
from neverbare.jobs import check_plate
from neverbare.ratios import floor_of, is_ascending, minus
from neverbare.slips import check_place, check_slips


def line_through(row, ratio):
    """The first plate that has a line at this coordinate, or None; the row is one axis of slips."""
    for plate, slip in enumerate(row):
        if minus(ratio, slip)[1] == 1:
            return plate
    return None


def _lies_on_line(slip, place):
    """Whether a place lies on a line of a plate with this slip."""
    return minus(place[0], slip[0])[1] == 1 or minus(place[1], slip[1])[1] == 1


def _check_lines(slips, place):
    """Refuses a place that lies on a line of some plate."""
    for plate, slip in enumerate(slips):
        if _lies_on_line(slip, place):
            raise OnLine(plate)


def _cell_over(slip, place):
    """The cell of a plate with this slip that lies over a place on no line of the plate."""
    return (floor_of(minus(place[0], slip[0])), floor_of(minus(place[1], slip[1])))


def is_on(plate, slip, place):
    """Whether a plate with this slip is on at a place on no line of it."""
    return _cell_over(slip, place) in plate.cells


def plate_cell(job, slips, plate, place):
    """The cell of the plate that lies over the place."""
    told = check_slips(job, slips)
    slip = told[check_plate(job, plate)]
    spot = check_place(place)
    if _lies_on_line(slip, spot):
        raise OnLine(plate)
    return _cell_over(slip, spot)


def on_plates(job, slips, place):
    """The numbers of the plates that are on at the place, ascending."""
    told = check_slips(job, slips)
    spot = check_place(place)
    _check_lines(told, spot)
    return tuple([
        number for number, plate in enumerate(job.plates) if is_on(plate, told[number], spot)
    ])


def _top_down(job, on):
    """What is shown of the plates that are on, which are told ascending."""
    lowest = 0
    for plate in on:
        if job.plates[plate].hiding:
            lowest = plate
    return tuple([plate for plate in on if plate >= lowest])


def showing_of(job, on):
    """The showing of the plates that are on."""
    if not is_ascending(on, len(job.plates)):
        raise BadOn()
    return _top_down(job, on)


def showings_by_code(job):
    """The showing of each choice of plates that are on; plate p is on if bit p of the index is 1."""
    many = len(job.plates)
    return tuple([
        _top_down(job, [plate for plate in range(many) if (code >> plate) & 1 == 1])
        for code in range(1 << many)
    ])


def shown_at(job, slips, place):
    """The showing of the place."""
    return _top_down(job, on_plates(job, slips, place))


def whole_alike(job, slips, place):
    """The sheet cell of the place, and whole slips at which its middle shows the same."""
    told = check_slips(job, slips)
    x, y = check_place(place)
    _check_lines(told, (x, y))
    cell = (floor_of(x), floor_of(y))
    found = []
    for slip in told:
        over = _cell_over(slip, (x, y))
        found.append(((cell[0] - over[0], 1), (cell[1] - over[1], 1)))
    return (cell, tuple(found))
