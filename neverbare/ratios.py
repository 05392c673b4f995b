"""Ratios: exact numbers as couples (top, bottom) in lowest terms."""

from math import gcd

from neverbare.errors import BadRatio

ZERO = (0, 1)
ONE = (1, 1)
HALF = (1, 2)


def is_whole(thing, low=None, high=None):
    """Whether a thing of any kind is a whole number from low to high."""
    if not isinstance(thing, int) or isinstance(thing, bool):
        return False
    if low is not None and thing < low:
        return False
    return high is None or thing <= high


def is_sequence(thing, low=0, high=None):
    """Whether a thing of any kind is a list or a tuple with low to high items."""
    return isinstance(thing, (list, tuple)) and is_whole(len(thing), low, high)


def is_ascending(thing, many):
    """Whether a thing of any kind is an ascending sequence of unlike numbers from 0 below many."""
    if not is_sequence(thing) or not all([is_whole(part, 0, many - 1) for part in thing]):
        return False
    return all([thing[k] < thing[k + 1] for k in range(len(thing) - 1)])


def number_choices(many, size):
    """All ascending tuples of so many unlike numbers from 0 that are below many, ascending."""
    rows = [()]
    for _ in range(size):
        rows = [
            (*row, number)
            for row in rows for number in range(many) if len(row) == 0 or number > row[-1]
        ]
    return rows


def number_pairs(many):
    """All couples of numbers from 0 that are below many, the lesser one first, ascending."""
    return number_choices(many, 2)


def is_ratio(thing):
    """Whether a thing of any kind is a ratio."""
    if not isinstance(thing, tuple) or len(thing) != 2:
        return False
    top, bottom = thing
    return is_whole(top) and is_whole(bottom, 1) and gcd(top, bottom) == 1


def _lowest(top, bottom):
    """The ratio of two whole numbers, of which the bottom is not 0."""
    part = gcd(top, bottom)
    if bottom < 0:
        part = -part
    return (top // part, bottom // part)


def make_ratio(top, bottom=1):
    """The ratio of two whole numbers."""
    if not is_whole(top):
        raise BadRatio("top")
    if not is_whole(bottom) or bottom == 0:
        raise BadRatio("bottom")
    return _lowest(top, bottom)


def plus(one, other):
    """The sum of two ratios."""
    return _lowest(one[0] * other[1] + other[0] * one[1], one[1] * other[1])


def minus(one, other):
    """The first ratio less the second one."""
    return _lowest(one[0] * other[1] - other[0] * one[1], one[1] * other[1])


def times(one, other):
    """The product of two ratios."""
    return _lowest(one[0] * other[0], one[1] * other[1])


def over(one, other):
    """The first ratio divided by the second one."""
    if other[0] == 0:
        raise BadRatio("zero")
    return _lowest(one[0] * other[1], one[1] * other[0])


def negative(one):
    """The ratio with the other sign."""
    return (-one[0], one[1])


def compare(one, other):
    """-1, 0 or 1, as the first ratio is less than, equal to or greater than the second one."""
    left = one[0] * other[1]
    right = other[0] * one[1]
    if left < right:
        return -1
    if left > right:
        return 1
    return 0


def sum_of(ratios):
    """The sum of a sequence of ratios."""
    total = ZERO
    for ratio in ratios:
        total = plus(total, ratio)
    return total


def least_of(ratios):
    """The least ratio of a sequence that has one."""
    best = ratios[0]
    for ratio in ratios:
        if compare(ratio, best) < 0:
            best = ratio
    return best


def greatest_of(ratios):
    """The greatest ratio of a sequence that has one."""
    best = ratios[0]
    for ratio in ratios:
        if compare(ratio, best) > 0:
            best = ratio
    return best


def floor_of(one):
    """The greatest whole number that is not above the ratio."""
    return one[0] // one[1]


def broken_of(one):
    """The ratio less its floor."""
    return (one[0] % one[1], one[1])


def merged_ratios(one, other):
    """The unlike ratios of two ascending sequences, ascending."""
    found = []
    i = 0
    j = 0
    while i < len(one) and j < len(other):
        side = compare(one[i], other[j])
        found.append(one[i] if side < 0 else other[j])
        if side <= 0:
            i += 1
        if side >= 0:
            j += 1
    return tuple(found + list(one[i:]) + list(other[j:]))


def ascending_ratios(ratios):
    """The unlike ratios of a sequence, ascending by number."""
    if len(ratios) < 2:
        return tuple(ratios)
    half = len(ratios) // 2
    return merged_ratios(ascending_ratios(ratios[:half]), ascending_ratios(ratios[half:]))


def middle_of_two(one, other):
    """The ratio in the middle between two ratios."""
    return times(plus(one, other), HALF)


def ratio_text(one):
    """The text of a ratio: "3" or "-7/2"."""
    if one[1] == 1:
        return str(one[0])
    return f"{one[0]}/{one[1]}"
