"""Steerers of drifts: how one is beaten, and what comes if one is played."""

from neverbare.drifts import good_ends, is_correction, is_in_bound, is_ratio_within
from neverbare.errors import BadPlay, BadStep, CanStay
from neverbare.ratios import (
    HALF, ZERO, compare, is_ratio, is_sequence, middle_of_two, minus, negative, plus, times,
)


class Beaten:
    """A slip, what is seen of it, and moves up to a sheet on which it is beyond the bound."""

    def __init__(self, slip, seen, moves, sheet):
        self.slip = slip
        self.seen = seen
        self.moves = moves
        self.sheet = sheet


class Play:
    """What was seen, the corrections, the slips on all sheets, and the first sheet beyond."""

    def __init__(self, seen, corrections, slips, out):
        self.seen = seen
        self.corrections = corrections
        self.slips = slips
        self.out = out


def _step_of(drift, steerer, seen):
    """The correction that a steerer returns for what is seen."""
    step = steerer(seen)
    if not is_correction(drift, step):
        raise BadStep(step)
    return step


def _moves_beyond(drift, slip, move):
    """As many like moves as lead from a slip beyond the bound."""
    moves = [move]
    now = plus(slip, move)
    while is_in_bound(drift, now):
        moves.append(move)
        now = plus(now, move)
    return tuple(moves)


def beat_steerer(drift, steerer):
    """A Beaten, which leads the slip beyond the bound ahead of the second look."""
    if compare(drift.leeway, ZERO) >= 0:
        raise CanStay()
    low, high = good_ends(drift)
    # All sums that are good lie strictly between two neighbouring ones that can be reached.
    seen = plus(middle_of_two(low, high), times(drift.grain, HALF))
    step = _step_of(drift, steerer, seen)
    if compare(plus(seen, step), low) < 0:
        slip, move = minus(seen, drift.fuzz), drift.low
    else:
        slip, move = plus(seen, drift.fuzz), drift.high
    moves = _moves_beyond(drift, plus(slip, step), move)
    return Beaten(slip, seen, moves, len(moves) - 1)


def _check_play(drift, slip, moves, errors):
    """Refuses what cannot be played."""
    if not is_ratio(slip):
        raise BadPlay(0, "slip")
    if not is_sequence(moves, 0, 100):
        raise BadPlay(0, "moves")
    for index, move in enumerate(moves):
        if not is_ratio_within(move, drift.low, drift.high):
            raise BadPlay(index, "move")
    looks = -(-len(moves) // drift.every)
    if not is_sequence(errors, looks, looks):
        raise BadPlay(0, "errors")
    for index, error in enumerate(errors):
        if not is_ratio_within(error, negative(drift.fuzz), drift.fuzz):
            raise BadPlay(index, "error")


def _first_beyond(drift, slips):
    """The number of the first slip beyond the bound, or None."""
    for sheet, slip in enumerate(slips):
        if not is_in_bound(drift, slip):
            return sheet
    return None


def play_drift(drift, steerer, slip, moves, errors):
    """The Play of a steerer with these moves and errors."""
    _check_play(drift, slip, moves, errors)
    seen = []
    corrections = []
    slips = []
    now = slip
    for sheet, move in enumerate(moves):
        if sheet % drift.every == 0:
            seen.append(plus(now, errors[len(seen)]))
            corrections.append(_step_of(drift, steerer, seen[-1]))
            now = plus(now, corrections[-1])
        now = plus(now, move)
        slips.append(now)
    return Play(tuple(seen), tuple(corrections), tuple(slips), _first_beyond(drift, slips))
