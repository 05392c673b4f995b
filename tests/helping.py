"""What several tests share: checks of errors, small jobs, and a plain second reckoning."""

import copy
from fractions import Fraction
from itertools import product

from neverbare.errors import BadRegion
from neverbare.jobs import Job
from neverbare.plates import Plate

# Things that are no whole numbers, ratios, cells, sequences or the like, whatever is asked for.
ODD_THINGS = (None, True, False, "0", "ab", 1.0, {}, {0: 1}, object())


def raises(case, error, attributes, call, *args, **more):
    """The call raises just this error, and the error has just these attributes, in this order."""
    try:
        call(*args, **more)
    except error as found:
        case.assertIs(found.__class__, error)
        case.assertEqual(list(vars(found).items()), list(attributes.items()))
        for name in attributes:
            case.assertIs(vars(found)[name].__class__, attributes[name].__class__)
        return
    case.fail(f"{error.__name__} was not raised")


def leaves_alone(case, call, *args):
    """What is passed in is unchanged behind the call; returns what the call returns."""
    before = copy.deepcopy(args)
    result = call(*args)
    for one, other in zip(args, before):
        if isinstance(one, (list, tuple)):
            case.assertEqual(one, other)
    return result


def listed(thing):
    """The thing with all tuples as lists but the ratios, which must be tuples."""
    if isinstance(thing, tuple):
        if len(thing) == 2 and all(type(part) is int for part in thing) and thing[1] > 0:
            return thing
        return [listed(part) for part in thing]
    return thing


def cell_lists(cells):
    """The cells as a list of lists."""
    return [list(cell) for cell in cells]


def all_tuples(case, thing):
    """No sequence in the thing is anything but a tuple."""
    case.assertNotIsInstance(thing, list)
    if isinstance(thing, tuple):
        for part in thing:
            all_tuples(case, part)


class Draws:
    """Numbers that look drawn but are the same in every run."""

    def __init__(self, seed):
        self.state = seed

    def below(self, many):
        self.state = (self.state * 1103515245 + 12345) % 2147483648
        return (self.state >> 8) % many

    def one_of(self, things):
        return things[self.below(len(things))]


def drawn_plate(draws, width, height, bounds=((0, 0), (1, 0), (0, 1), (1, 1)), ink=None):
    likely = draws.one_of((1, 2, 3, 4)) if ink is None else ink
    cells = [(x, y) for x in range(width) for y in range(height) if draws.below(4) < likely]
    return Plate(cells, draws.below(2) == 1, draws.one_of(bounds))


def drawn_job(draws, width=None, height=None, many=None, bounds=((0, 0), (1, 0), (0, 1), (1, 1))):
    width = draws.one_of((1, 2, 3, 4)) if width is None else width
    height = draws.one_of((1, 2, 3)) if height is None else height
    many = draws.one_of((1, 2, 3)) if many is None else many
    return Job(width, height, [drawn_plate(draws, width, height, bounds) for _ in range(many)])


def drawn_jobs(seed, many, **more):
    draws = Draws(seed)
    return [drawn_job(draws, **more) for _ in range(many)]


def drawn_ratio(draws, bound, bottoms=(1, 2, 3, 4, 5)):
    """A ratio from -bound to bound."""
    bottom = draws.one_of(bottoms)
    return as_ratio(Fraction(draws.below(2 * bound * bottom + 1) - bound * bottom, bottom))


def drawn_slips(draws, job):
    return tuple(
        (drawn_ratio(draws, plate.bound[0]), drawn_ratio(draws, plate.bound[1])) for plate in job
    )


def as_ratio(number):
    number = Fraction(number)
    return (number.numerator, number.denominator)


def whole_slips(job):
    """All whole slips, reckoned apart from the package."""
    own = []
    for plate in job.plates:
        across, along = plate.bound
        own.append([
            ((u, 1), (v, 1))
            for u in range(-across, across + 1) for v in range(-along, along + 1)
        ])
    return list(product(*own))


def plain_on(plate, slip, place):
    """Whether the plate is on, as [0.2] says it; None on a line of the plate."""
    x = Fraction(*place[0]) - Fraction(*slip[0])
    y = Fraction(*place[1]) - Fraction(*slip[1])
    if x.denominator == 1 or y.denominator == 1:
        return None
    return any(i < x < i + 1 and j < y < j + 1 for i, j in plate.cells)


def plain_showing(job, slips, place):
    """The showing as [0.2] says it: from the topmost down to the first hiding one."""
    shown = []
    for number in reversed(range(len(job.plates))):
        if plain_on(job.plates[number], slips[number], place):
            shown.append(number)
            if job.plates[number].hiding:
                break
    return tuple(sorted(shown))


def middle(cell):
    return as_ratio(Fraction(2 * cell[0] + 1, 2)), as_ratio(Fraction(2 * cell[1] + 1, 2))


def cells_about(job):
    """The cells of the field, and those around it."""
    return [(x, y) for x in range(-2, job.width + 2) for y in range(-2, job.height + 2)]


# The job of the example [5.13]: plate 0 clear, plate 1 hiding.
EXAMPLE = Job(7, 1, [
    Plate([(2, 0), (3, 0), (4, 0)], False, (1, 0)),
    Plate([(2, 0), (3, 0), (4, 0), (5, 0), (6, 0)], True, (1, 0)),
])


def drawn_region(draws, job, most):
    cells = cells_about(job)
    return [draws.one_of(cells) for _ in range(draws.below(most + 1))]


def bad_regions(case, call, *more):
    """The call refuses what is no region."""
    for thing in ([(0, 0)] * 49, {(0, 0)}, {(0, 0): 1}, *ODD_THINGS):
        raises(case, BadRegion, {"index": 0}, call, EXAMPLE, thing, *more)
    for thing in ((21, 0), (0, -21), (0,), (True, 0), [0, False], None, 7):
        raises(case, BadRegion, {"index": 1}, call, EXAMPLE, [(0, 0), thing, None], *more)
        raises(case, BadRegion, {"index": 0}, call, EXAMPLE, (thing,), *more)
