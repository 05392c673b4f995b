"""Whether two jobs look alike at all slips."""

from neverbare.places import as_whole_numbers, is_on_at, sheet_cells_about
from neverbare.shows import shown_at, showings_by_code
from neverbare.slips import middle_of_cell, whole_slips_of
from neverbare.unlike import Unlike, check_comparable, sight_fault


def _choices_of(plate, other, cell, weight):
    """Triples (code in one job, code in the other job, slip) of a plate over a sheet cell."""
    found = {}
    for slip in whole_slips_of(plate):
        code = weight if is_on_at(plate, slip, cell) else 0
        found[(code, weight if is_on_at(other, slip, cell) else 0)] = slip
    return [(code, code_too, slip) for (code, code_too), slip in found.items()]


def _codes_of_both(one, other, cell):
    """Triples (code in one job, code in the other job, slips) of a sheet cell."""
    rows = [(0, 0, ())]
    weight = 1
    for plate, further in zip(one.plates, other.plates):
        choices = _choices_of(plate, further, cell, weight)
        rows = [
            (code + a, code_too + b, (*slips, slip))
            for code, code_too, slips in rows for a, b, slip in choices
        ]
        weight = weight + weight
    return rows


def looks_alike(one, other):
    """None if two jobs look alike at all slips, otherwise an Unlike."""
    check_comparable(one, other)
    showings = showings_by_code(one)
    for cell in sheet_cells_about(one):
        for code, code_too, slips in _codes_of_both(one, other, cell):
            if showings[code] != showings[code_too]:
                return Unlike(slips, middle_of_cell(cell), showings[code], showings[code_too])
    return None


def showings_fault(unlike, showing, other):
    """None if an Unlike tells these two showings and they are unlike, otherwise a word."""
    if as_whole_numbers(unlike.showing) != showing:
        return "showing"
    if as_whole_numbers(unlike.other) != other:
        return "other"
    return "alike" if showing == other else None


def jobs_fault(one, other, unlike):
    """None if an Unlike of two jobs with the same bounds is right, otherwise a word."""
    word = sight_fault(one, unlike.slips, unlike.place)
    if word is not None:
        return word
    shown = shown_at(one, unlike.slips, unlike.place)
    return showings_fault(unlike, shown, shown_at(other, unlike.slips, unlike.place))


def unlike_fault(one, other, unlike):
    """None if an Unlike of two jobs is right, otherwise the first word that applies."""
    check_comparable(one, other)
    return jobs_fault(one, other, unlike)
