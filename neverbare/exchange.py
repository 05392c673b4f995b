"""Other orders of printing, and plates switched, that change no sheet at any slips."""

from neverbare.alike import jobs_fault, showings_fault
from neverbare.errors import BadOrder, NoPlate
from neverbare.jobs import check_plate
from neverbare.places import codes_of_cells, sheet_cells_about
from neverbare.ratios import is_sequence, is_whole
from neverbare.shows import shown_at, showings_by_code
from neverbare.slips import middle_of_cell
from neverbare.unlike import Unlike, check_order, shown_by, shown_in_order, sight_fault


def _choices_that_come(job):
    """Triples (code, sheet cell, whole slips) for each choice of plates that is ever on at once."""
    found = {}
    for cell in sheet_cells_about(job):
        for codes, slips in codes_of_cells(job, (cell,)):
            if codes[0] not in found:
                found[codes[0]] = (cell, slips)
    return [(code, found[code][0], found[code][1]) for code in sorted(list(found))]


def _first_unlike(job, others):
    """An Unlike where the job and other showings, by code, part at any slips, or None."""
    own = showings_by_code(job)
    for code, cell, slips in _choices_that_come(job):
        if own[code] != others[code]:
            return Unlike(slips, middle_of_cell(cell), own[code], others[code])
    return None


def _showings_in_order(job, order):
    """The showing of each choice of plates that are on, by code, in an order of printing."""
    many = len(job.plates)
    return [
        shown_in_order(job, order, [plate for plate in range(many) if (code >> plate) & 1 == 1])
        for code in range(1 << many)
    ]


def _own_order(job):
    """The order in which the job itself is printed."""
    return tuple(list(range(len(job.plates))))


def _all_orders(job):
    """All orders of printing, ascending."""
    numbers = _own_order(job)
    rows = [()]
    for _ in numbers:
        rows = [(*row, plate) for row in rows for plate in numbers if plate not in row]
    return rows


def _neighbours(order):
    """The orders with two neighbours exchanged."""
    return [
        order[:at] + (order[at + 1], order[at]) + order[at + 2:]
        for at in range(len(order) - 1)
    ]


def orders_alike(job):
    """All orders of printing that give the same sheet at all slips, ascending."""
    own = showings_by_code(job)
    codes = [row[0] for row in _choices_that_come(job)]
    found = []
    for order in _all_orders(job):
        others = _showings_in_order(job, order)
        if all([own[code] == others[code] for code in codes]):
            found.append(order)
    return tuple(found)


def _order_exchanged(job, plate):
    """The own order with this plate and the next one exchanged."""
    if not is_whole(plate, 0, len(job.plates) - 2):
        raise NoPlate(plate)
    return _neighbours(_own_order(job))[plate]


def may_exchange(job, plate):
    """None if the plate and the next one may be exchanged at all slips, otherwise an Unlike."""
    return _first_unlike(job, _showings_in_order(job, _order_exchanged(job, plate)))


def exchange_fault(job, plate, unlike):
    """None if an Unlike of an exchange is right, otherwise the first word that applies."""
    order = _order_exchanged(job, plate)
    word = sight_fault(job, unlike.slips, unlike.place)
    if word is not None:
        return word
    shown = shown_at(job, unlike.slips, unlike.place)
    return showings_fault(unlike, shown, shown_by(job, order, unlike.slips, unlike.place))


def way_of_exchanges(job, order):
    """A way of alike orders from the own order to this one, or None if it is not alike."""
    goal = check_order(job, order)
    alike = orders_alike(job)
    ways = [(_own_order(job),)]
    reached = {_own_order(job): True}
    at = 0
    while at < len(ways):
        way = ways[at]
        if way[-1] == goal:
            return way
        for further in _neighbours(way[-1]):
            if further in alike and further not in reached:
                reached[further] = True
                ways.append((*way, further))
        at += 1
    return None


def _as_order(job, thing):
    """A thing of any kind as an order of printing, or None."""
    try:
        return check_order(job, thing)
    except BadOrder:
        return None


def _step_fault(job, alike, before, thing):
    """None if a thing can stand behind this order in a way, otherwise a word."""
    order = _as_order(job, thing)
    if order is None:
        return "order"
    if order not in _neighbours(before):
        return "step"
    return None if order in alike else "alike"


def way_fault(job, order, way):
    """None if a way leads from the own order to this one, otherwise the first word that applies."""
    goal = check_order(job, order)
    before = _own_order(job)
    if not is_sequence(way, 1) or _as_order(job, way[0]) != before:
        return "begin"
    alike = orders_alike(job)
    for thing in way[1:]:
        word = _step_fault(job, alike, before, thing)
        if word is not None:
            return word
        before = tuple(thing)
    return None if before == goal else "end"


def _switched(job, plate):
    """The job with this plate clear instead of hiding, or hiding instead of clear."""
    told = check_plate(job, plate)
    return job.with_hiding(told, not job.plates[told].hiding)


def may_switch(job, plate):
    """None if the plate's hiding may be switched at all slips, otherwise an Unlike."""
    return _first_unlike(job, showings_by_code(_switched(job, plate)))


def switch_fault(job, plate, unlike):
    """None if an Unlike of a switch is right, otherwise the first word that applies."""
    return jobs_fault(job, _switched(job, plate), unlike)
