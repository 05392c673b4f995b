"""Doubts: between which slips a drift can be behind what was seen and corrected."""

from neverbare.drifts import is_correction
from neverbare.errors import BadDoubt, BadHistory, BadSeen, CannotBe
from neverbare.ratios import (
    ZERO, compare, floor_of, greatest_of, is_ratio, is_sequence, least_of, minus, negative, over,
    plus, times,
)
from neverbare.slips import is_couple


class Led:
    """A slip ahead of the first look, and the moves of all sheets between the looks."""

    def __init__(self, slip, moves):
        self.slip = slip
        self.moves = moves


def _check_history(drift, history):
    """Refuses what is no history of the drift."""
    if not is_sequence(history, 1, 20):
        raise BadHistory(0)
    for index, item in enumerate(history):
        if not is_sequence(item, 2, 2):
            raise BadHistory(index)
        if not is_ratio(item[0]) or not is_correction(drift, item[1]):
            raise BadHistory(index)


def _way_between_looks(drift):
    """The least and the greatest sum of all moves between two looks."""
    return (times((drift.every, 1), drift.low), times((drift.every, 1), drift.high))


def _spans_at_looks(drift, history):
    """For each look the least and the greatest slip that can be just ahead of it."""
    least_way, most_way = _way_between_looks(drift)
    found = []
    for index, (seen, _) in enumerate(history):
        low = minus(seen, drift.fuzz)
        high = plus(seen, drift.fuzz)
        if index > 0:
            step = history[index - 1][1]
            low = greatest_of((low, plus(plus(found[-1][0], step), least_way)))
            high = least_of((high, plus(plus(found[-1][1], step), most_way)))
        if compare(low, high) > 0:
            raise CannotBe(index)
        found.append((low, high))
    return found


def doubt_after(drift, history):
    """The least and the greatest slip that can be just behind the last correction."""
    _check_history(drift, history)
    low, high = _spans_at_looks(drift, history)[-1]
    step = history[-1][1]
    return (plus(low, step), plus(high, step))


def _slips_back(drift, history, spans, last):
    """A slip just ahead of each look, told backwards from the one ahead of the last look."""
    _, most_way = _way_between_looks(drift)
    found = [last]
    for index in range(len(history) - 2, -1, -1):
        # The least slip from which the next one can be reached, if it can be there.
        least = minus(minus(found[-1], history[index][1]), most_way)
        found.append(greatest_of((least, spans[index][0])))
    return found[::-1]


def lead_to(drift, history, slip):
    """A Led to this slip just behind the last correction, or None if it cannot be there."""
    _check_history(drift, history)
    spans = _spans_at_looks(drift, history)
    if not is_ratio(slip):
        raise BadSeen()
    last = minus(slip, history[-1][1])
    if compare(last, spans[-1][0]) < 0 or compare(last, spans[-1][1]) > 0:
        return None
    slips = _slips_back(drift, history, spans, last)
    moves = []
    for index in range(len(history) - 1):
        way = minus(slips[index + 1], plus(slips[index], history[index][1]))
        moves.extend([over(way, (drift.every, 1)) for _ in range(drift.every)])
    return Led(slips[0], tuple(moves))


def _sheets_with(room, move):
    """How many like moves fit into the room ahead of a slip, None if there is no greatest number."""
    if compare(move, room) > 0:
        return 0
    if compare(move, ZERO) <= 0:
        return None
    return floor_of(over(room, move))


def sheets_left(drift, doubt):
    """How many sheets are surely within the bound without a further look, None if all are."""
    if not is_couple(doubt) or compare(doubt[0], doubt[1]) > 0:
        raise BadDoubt()
    upward = _sheets_with(minus(drift.bound, doubt[1]), drift.high)
    downward = _sheets_with(plus(drift.bound, doubt[0]), negative(drift.low))
    counts = [count for count in (upward, downward) if count is not None]
    return min(counts, default=None)
