"""What several tests share: checks of errors, small jobs, and a plain second reckoning."""

import copy
from fractions import Fraction
from itertools import combinations, product

from neverbare.errors import BadRegion
from neverbare.jobs import Job
from neverbare.plates import Plate

# Things that are no whole numbers, ratios, cells, sequences or the like, whatever is asked for.
ODD_THINGS = (None, True, False, "0", "ab", 1.0, {}, {0: 1}, object())


def raises(case, error, attributes, call, *args, **more):
    """The call raises just this error, and the error has just these attributes, in this order."""
    try:
        call(*args, **more)
    except error as found:
        case.assertIs(found.__class__, error)
        case.assertEqual(list(vars(found).items()), list(attributes.items()))
        for name in attributes:
            case.assertIs(vars(found)[name].__class__, attributes[name].__class__)
        return
    case.fail(f"{error.__name__} was not raised")


def leaves_alone(case, call, *args):
    """What is passed in is unchanged behind the call; returns what the call returns."""
    before = copy.deepcopy(args)
    result = call(*args)
    for one, other in zip(args, before):
        if isinstance(one, (list, tuple)):
            case.assertEqual(one, other)
    return result


def listed(thing):
    """The thing with all tuples as lists but the ratios, which must be tuples."""
    if isinstance(thing, tuple):
        if len(thing) == 2 and all(type(part) is int for part in thing) and thing[1] > 0:
            return thing
        return [listed(part) for part in thing]
    return thing


def cell_lists(cells):
    """The cells as a list of lists."""
    return [list(cell) for cell in cells]


def all_tuples(case, thing):
    """No sequence in the thing is anything but a tuple."""
    case.assertNotIsInstance(thing, list)
    if isinstance(thing, tuple):
        for part in thing:
            all_tuples(case, part)


class Draws:
    """Numbers that look drawn but are the same in every run."""

    def __init__(self, seed):
        self.state = seed

    def below(self, many):
        self.state = (self.state * 1103515245 + 12345) % 2147483648
        return (self.state >> 8) % many

    def one_of(self, things):
        return things[self.below(len(things))]


def drawn_plate(draws, width, height, bounds=((0, 0), (1, 0), (0, 1), (1, 1)), ink=None):
    likely = draws.one_of((1, 2, 3, 4)) if ink is None else ink
    cells = [(x, y) for x in range(width) for y in range(height) if draws.below(4) < likely]
    return Plate(cells, draws.below(2) == 1, draws.one_of(bounds))


def drawn_job(draws, width=None, height=None, many=None, bounds=((0, 0), (1, 0), (0, 1), (1, 1))):
    width = draws.one_of((1, 2, 3, 4)) if width is None else width
    height = draws.one_of((1, 2, 3)) if height is None else height
    many = draws.one_of((1, 2, 3)) if many is None else many
    return Job(width, height, [drawn_plate(draws, width, height, bounds) for _ in range(many)])


def drawn_jobs(seed, many, **more):
    draws = Draws(seed)
    return [drawn_job(draws, **more) for _ in range(many)]


def drawn_ratio(draws, bound, bottoms=(1, 2, 3, 4, 5)):
    """A ratio from -bound to bound."""
    bottom = draws.one_of(bottoms)
    return as_ratio(Fraction(draws.below(2 * bound * bottom + 1) - bound * bottom, bottom))


def drawn_slips(draws, job):
    return tuple(
        (drawn_ratio(draws, plate.bound[0]), drawn_ratio(draws, plate.bound[1])) for plate in job
    )


def as_ratio(number):
    number = Fraction(number)
    return (number.numerator, number.denominator)


def whole_slips(job):
    """All whole slips, reckoned apart from the package."""
    own = []
    for plate in job.plates:
        across, along = plate.bound
        own.append([
            ((u, 1), (v, 1))
            for u in range(-across, across + 1) for v in range(-along, along + 1)
        ])
    return list(product(*own))


def plain_on(plate, slip, place):
    """Whether the plate is on, as [0.2] says it; None on a line of the plate."""
    x = Fraction(*place[0]) - Fraction(*slip[0])
    y = Fraction(*place[1]) - Fraction(*slip[1])
    if x.denominator == 1 or y.denominator == 1:
        return None
    return any(i < x < i + 1 and j < y < j + 1 for i, j in plate.cells)


def plain_showing(job, slips, place):
    """The showing as [0.2] says it: from the topmost down to the first hiding one."""
    shown = []
    for number in reversed(range(len(job.plates))):
        if plain_on(job.plates[number], slips[number], place):
            shown.append(number)
            if job.plates[number].hiding:
                break
    return tuple(sorted(shown))


def middle(cell):
    return as_ratio(Fraction(2 * cell[0] + 1, 2)), as_ratio(Fraction(2 * cell[1] + 1, 2))


def cells_about(job):
    """The cells of the field, and those around it."""
    return [(x, y) for x in range(-2, job.width + 2) for y in range(-2, job.height + 2)]


# The job of the example [5.13]: plate 0 clear, plate 1 hiding.
EXAMPLE = Job(7, 1, [
    Plate([(2, 0), (3, 0), (4, 0)], False, (1, 0)),
    Plate([(2, 0), (3, 0), (4, 0), (5, 0), (6, 0)], True, (1, 0)),
])


def drawn_region(draws, job, most):
    cells = cells_about(job)
    return [draws.one_of(cells) for _ in range(draws.below(most + 1))]


def bad_regions(case, call, *more):
    """The call refuses what is no region."""
    for thing in ([(0, 0)] * 49, {(0, 0)}, {(0, 0): 1}, *ODD_THINGS):
        raises(case, BadRegion, {"index": 0}, call, EXAMPLE, thing, *more)
    for thing in ((21, 0), (0, -21), (0,), (True, 0), [0, False], None, 7):
        raises(case, BadRegion, {"index": 1}, call, EXAMPLE, [(0, 0), thing, None], *more)
        raises(case, BadRegion, {"index": 0}, call, EXAMPLE, (thing,), *more)


ZERO = (0, 1)
STILL = (ZERO, ZERO)

# What is wrong as an argument beside a job of two plates with the bounds (1, 0), each with the
# attributes of the error.
BAD_SLIPS = (
    [(thing, {"index": 0, "what": "many"})
     for thing in ((), [STILL], [STILL] * 3, [None], {STILL: 1, ZERO: 1}, *ODD_THINGS)]
    + [((STILL, thing), {"index": 1, "what": "slip"})
       for thing in ((), (ZERO,), (ZERO, 0), [[0, 1], ZERO], ((True, 1), ZERO), (ZERO, ZERO, ZERO), *ODD_THINGS)]
    + [([thing, None], {"index": 0, "what": "bound"})
       for thing in (((2, 1), ZERO), (ZERO, (1, 100)), ((-101, 100), ZERO))]
)
BAD_KINDS = [
    (thing, {}) for thing in ("Bare", "alone", (), ("alone",), ("alone", 2), ("shows", -1), ("bare", 0),
                              ("shows", True), ("alone", 0, 0), {"alone": 0, "shows": 1}, *ODD_THINGS)]
BAD_AXES = [(thing, {"axis": thing}) for thing in (2, -1, (0,), *ODD_THINGS)]
BAD_COUPLES = ((), (0,), (0, 0), (1, 0), (0, 1, 2), (-21, 0), (0, 21), (False, 3), [0, True], ((0, 1), (1, 1)),
               {0: 1, 1: 2}, *ODD_THINGS)
BAD_WINDOWS = [(thing, {"what": "window"}) for thing in BAD_COUPLES]
BAD_BANDS = [(thing, {"what": "band"}) for thing in BAD_COUPLES]
BAD_RATIOS = (0, 1, (2, 4), (1, 0), (1, -1), [1, 2], (True, 1), (1,), *ODD_THINGS)
BAD_PLACES = [(thing, {}) for thing in ((), (ZERO,), (ZERO, ZERO, ZERO), (ZERO, 0), ([0, 1], ZERO), *ODD_THINGS)]
BAD_GROUPS = [(thing, {}) for thing in ((), [], (1, 0), (0, 0), (2,), (0, -1), (-1,), (-1, 0), (0, 1, 2), (False,),
                                        (0, True), {0: 1}, *ODD_THINGS)]
BAD_PLATES = [(thing, {"plate": thing}) for thing in (2, -1, (0,), *ODD_THINGS)]
BAD_REGIONS = (
    [(thing, {"index": 0}) for thing in ([(0, 0)] * 49, {(0, 0): 1}, *ODD_THINGS)]
    + [([(0, 0), thing, None], {"index": 1}) for thing in ((21, 0), (0,), (True, 0), None, 7)]
)


def refuses(case, call, good, at, error, wrong):
    """Wrong things as argument number at are refused, whatever the arguments behind it are."""
    for thing, attributes in wrong:
        for behind in ([object() for _ in good[at + 1:]], good[at + 1:]):
            raises(case, error, attributes, call, *good[:at], thing, *behind)


def number(ratio):
    return Fraction(*ratio)


def plain_kind(showing, kind):
    """Whether a showing is of a kind, as [2.13] says it."""
    if isinstance(kind, str):
        return (kind == "bare" and showing == ()) or (kind == "mixed" and len(showing) >= 2)
    return showing == (kind[1],) if kind[0] == "alone" else kind[1] in showing


def all_kinds(job):
    plates = range(len(job.plates))
    return ["bare", "mixed", *[(word, plate) for word in ("alone", "shows") for plate in plates]]


def drawn_place(draws, job, bottoms=(2, 3, 4, 5, 7)):
    """A place on the field or around it."""
    def along(size):
        bottom = draws.one_of(bottoms)
        return as_ratio(Fraction(draws.below((size + 4) * bottom) - 2 * bottom, bottom))
    return along(job.width), along(job.height)


def on_no_line(job, slips, place):
    return all(plain_on(plate, slip, place) is not None for plate, slip in zip(job.plates, slips))


def whole_showing(job, slips, cell):
    """What a sheet cell shows at whole slips, reckoned apart from the package, but faster."""
    shown = ()
    for number in reversed(range(len(job.plates))):
        (u, _), (v, _) = slips[number]
        plate = job.plates[number]
        if (cell[0] - u, cell[1] - v) in plate.cells:
            shown = (number, *shown)
            if plate.hiding:
                break
    return shown


def at_axis(axis, along, across):
    """The place with these two coordinates along and across an axis."""
    return (along, across) if axis == 0 else (across, along)


def plain_runs(job, slips, axis, across, window, kind):
    """All runs on a line between two numbers, as fractions: cut at all lines, middles asked."""
    low, high = Fraction(window[0]), Fraction(window[1])
    cuts = {low, high}
    for slip in slips:
        cuts |= {whole + number(slip[axis]) for whole in range(low.__floor__() - 3, high.__floor__() + 4)}
    cuts = sorted(cut for cut in cuts if low <= cut <= high)
    found = []
    for start, end in zip(cuts, cuts[1:]):
        if plain_kind(plain_showing(job, slips, at_axis(axis, as_ratio((start + end) / 2), across)), kind):
            if found and found[-1][1] == start:
                found[-1] = (found[-1][0], end)
            else:
                found.append((start, end))
    return found


def plain_lines(slips, axis, band):
    """A line in each piece into which the plates' lines part a band, as ratios."""
    cuts = {Fraction(band[0]), Fraction(band[1])}
    for slip in slips:
        cuts |= {whole + number(slip[1 - axis]) for whole in range(band[0] - 3, band[1] + 3)}
    cuts = sorted(cut for cut in cuts if band[0] <= cut <= band[1])
    return [as_ratio((start + end) / 2) for start, end in zip(cuts, cuts[1:])]


def drawn_window(draws, size, room=2):
    """A window on a field of this size or a bit beyond it."""
    low = draws.below(size) - (draws.below(3) == 0)
    return low, low + 1 + draws.below(size + room)


def drawn_case(draws, job):
    """An axis, a window, a band and a kind."""
    axis = draws.below(2)
    sizes = (job.width, job.height)
    return (axis, drawn_window(draws, sizes[axis]), drawn_window(draws, sizes[1 - axis], 1),
            draws.one_of(all_kinds(job)))


# The job of the example [8.10], and its region.
SIX = Job(6, 1, [Plate([(0, 0), (1, 0), (2, 0)], False, (1, 0)), Plate([(3, 0), (4, 0), (5, 0)], False, (1, 0))])
REGION = [(1, 0), (2, 0), (3, 0), (4, 0)]
BAD_FEW_REGIONS = [([(x, 0) for x in range(7)], {"most": 6}), ([(x, 0) for x in range(-20, 20)], {"most": 6})]


def all_lots(inks, most=None):
    """All lots made of some of the inks: the small ones first, those of one size ascending."""
    inks = sorted(inks)
    for size in range(len(inks) + 1 if most is None else most + 1):
        yield from combinations(inks, size)


def free_ink(job):
    """The inks that the job does not have, ascending."""
    return [(number, cell) for number, plate in enumerate(job.plates) for cell in job.field if cell not in plate.cells]


def all_ink(job):
    return [(number, cell) for number, plate in enumerate(job.plates) for cell in plate.cells]


def inked_job(job, inks):
    """The job with this ink alone, made without the package's lots."""
    return Job(job.width, job.height, [
        Plate([cell for number, cell in inks if number == own], plate.hiding, plate.bound)
        for own, plate in enumerate(job.plates)])


def more_ink(job, lot):
    return inked_job(job, [*all_ink(job), *lot])


def less_ink(job, lot):
    return inked_job(job, [ink for ink in all_ink(job) if ink not in lot])


def plain_deep(plate, cell):
    """Whether a plate is on over a cell at all its whole slips."""
    across, along = plate.bound
    return all((cell[0] - u, cell[1] - v) in plate.cells
               for u in range(-across, across + 1) for v in range(-along, along + 1))


def plain_never_bare(job, region):
    """Whether no whole slips bare a cell: each plate slips of its own, so one must never be off."""
    return all(any(plain_deep(plate, cell) for plate in job.plates) for cell in region)


def seen_otherwise(job):
    """Couples of the mirrored and turned jobs and the function that leads the cells along."""
    return [
        (job.mirrored(0), lambda cell: (job.width - 1 - cell[0], cell[1])),
        (job.mirrored(1), lambda cell: (cell[0], job.height - 1 - cell[1])),
        (job.turned(), lambda cell: (job.height - 1 - cell[1], cell[0])),
    ]


def led_lot(lot, lead):
    return tuple(sorted((plate, lead(cell)) for plate, cell in lot))


def led_lots(lots, lead):
    return sorted(led_lot(lot, lead) for lot in lots)


def finer_cells(cells, size):
    return [(size * x + i, size * y + j) for x, y in cells for i in range(size) for j in range(size)]


def place_in(draws, cell, bottoms=(2, 3, 5, 7, 11)):
    """A place within a sheet cell, on none of its rims."""
    def along(low):
        bottom = draws.one_of(bottoms)
        return as_ratio(low + Fraction(1 + draws.below(bottom - 1), bottom))
    return along(cell[0]), along(cell[1])


def shows_something(case, draws, job, region, many=6):
    """No place of the region is bare at drawn slips, whole or not."""
    for _ in range(many):
        slips = drawn_slips(draws, job)
        for cell in region:
            place = place_in(draws, cell)
            if on_no_line(job, slips, place):
                case.assertNotEqual(plain_showing(job, slips, place), ())


def dense_jobs(seed, many, width=3, height=2, bounds=((0, 0), (1, 0), (0, 1), (1, 1))):
    """Jobs with much ink."""
    draws = Draws(seed)
    return [Job(width, height, [drawn_plate(draws, width, height, bounds, draws.one_of((2, 3, 4)))
                                for _ in range(1 + draws.below(3))]) for _ in range(many)]


def deep_regions(seed, many, most=3, **more):
    """Jobs with regions that are never bare."""
    draws = Draws(seed)
    found = []
    for job in dense_jobs(seed + 1, many, **more):
        deep = [cell for cell in job.field if plain_never_bare(job, [cell])]
        if deep:
            found.append((job, [draws.one_of(deep) for _ in range(1 + draws.below(most))]))
    return found
