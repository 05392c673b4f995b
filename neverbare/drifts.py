"""Drifts: the slip of one plate along one axis, which moves while sheets are printed."""

from neverbare.errors import BadDrift, BadSeen, CannotStay
from neverbare.ratios import (
    HALF, ZERO, compare, floor_of, greatest_of, is_ratio, is_whole, least_of, middle_of_two, minus,
    negative, over, times,
)


def is_ratio_from(thing, low):
    """Whether a thing of any kind is a ratio that is not below another one."""
    return is_ratio(thing) and compare(low, thing) <= 0


def is_ratio_within(thing, low, high):
    """Whether a thing of any kind is a ratio from one to another one."""
    return is_ratio_from(thing, low) and compare(thing, high) <= 0


def good_ends(drift):
    """The least and the greatest sum of seen and correction that is good for all sheets.

    If the first one is above the second one, no sum is good.
    """
    many = (drift.every, 1)
    least = least_of((drift.low, times(many, drift.low)))
    most = greatest_of((drift.high, times(many, drift.high)))
    rest = minus(drift.bound, drift.fuzz)
    return (minus(negative(rest), least), minus(rest, most))


class Drift:
    """How a slip may move, and how it is seen and corrected ahead of some sheets."""

    def __init__(self, bound, low, high, every, *, fuzz=ZERO, grain=ZERO):
        if not is_ratio_from(bound, ZERO):
            raise BadDrift("bound")
        if not is_ratio(low):
            raise BadDrift("low")
        if not is_ratio_from(high, low):
            raise BadDrift("high")
        if not is_whole(every, 1, 12):
            raise BadDrift("every")
        if not is_ratio_from(fuzz, ZERO):
            raise BadDrift("fuzz")
        if not is_ratio_from(grain, ZERO):
            raise BadDrift("grain")
        self.bound = bound
        self.low = low
        self.high = high
        self.every = every
        self.fuzz = fuzz
        self.grain = grain

    def __eq__(self, other):
        return (isinstance(other, Drift) and self.bound == other.bound
                and self.low == other.low and self.high == other.high
                and self.every == other.every and self.fuzz == other.fuzz
                and self.grain == other.grain)

    @property
    def leeway(self):
        """What is left between all that can come; below 0, no way of correcting is good."""
        low, high = good_ends(self)
        return minus(minus(high, low), self.grain)


def is_correction(drift, thing):
    """Whether a thing of any kind is a correction of the drift."""
    if not is_ratio(thing):
        return False
    return drift.grain == ZERO or over(thing, drift.grain)[1] == 1


def is_in_bound(drift, slip):
    """Whether a slip is within the bound."""
    return is_ratio_within(slip, negative(drift.bound), drift.bound)


class Steady:
    """A way of correcting that makes the drift stay for ever."""

    def __init__(self, drift):
        if compare(drift.leeway, ZERO) < 0:
            raise CannotStay()
        self.drift = drift

    @property
    def aim(self):
        """What seen and correction should come to."""
        low, high = good_ends(self.drift)
        return middle_of_two(low, high)

    def __call__(self, seen):
        if not is_ratio(seen):
            raise BadSeen()
        wanted = minus(self.aim, seen)
        grain = self.drift.grain
        if grain == ZERO:
            return wanted
        # Rounded so that of two equally near multiples the lesser one is taken.
        steps = -floor_of(minus(HALF, over(wanted, grain)))
        return times((steps, 1), grain)
