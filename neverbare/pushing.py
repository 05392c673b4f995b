"""How a run is brought to whole slips, push by push."""

from neverbare.errors import BadPush, BadRun
from neverbare.kinds import check_kind
from neverbare.ratios import (
    HALF, ONE, ZERO, broken_of, compare, floor_of, is_ratio, make_ratio, minus, plus,
)
from neverbare.runs import Run, is_within, ratio_ends, run_fault, runs_between
from neverbare.spots import whole_stretch
from neverbare.stands import broken_parts, row_of
from neverbare.widest import slips_along


class Push:
    """All plates whose part is this one slip further by a ratio along the axis."""

    def __init__(self, part, by):
        self.part = part
        self.by = by

    def __eq__(self, other):
        return isinstance(other, Push) and self.part == other.part and self.by == other.by


def _check_run(job, axis, window, kind, run):
    """Refuses a run that is none, once all other arguments are checked."""
    word = run_fault(job, axis, window, kind, run)
    if word is not None:
        raise BadRun(word)


def _limits_of(row, part):
    """The next lesser and the next greater part of a plate, 0 and 1 if there is none."""
    cuts = (ZERO, *broken_parts(row), ONE)
    at = cuts.index(part)
    return (cuts[at - 1], cuts[at + 1])


def _moved_by(ratio, push):
    """The ratio behind a push: it moves along if it has the push's part."""
    return plus(ratio, push.by) if broken_of(ratio) == push.part else ratio


def _check_push(row, run, push):
    """Refuses a push that cannot be carried."""
    if not is_ratio(push.part) or push.part not in broken_parts(row):
        raise BadPush("part")
    if not is_ratio(push.by) or push.by == ZERO:
        raise BadPush("by")
    low, high = _limits_of(row, push.part)
    reached = plus(push.part, push.by)
    if compare(reached, low) < 0 or compare(reached, high) > 0:
        raise BadPush("by")
    if compare(minus(_moved_by(run.high, push), _moved_by(run.low, push)), run.length) < 0:
        raise BadPush("narrower")


def _run_around(job, slips, axis, across, window, kind, stretch):
    """The Run that holds a stretch of the kind."""
    for low, high in runs_between(job, slips, axis, across, ratio_ends(window), kind):
        if is_within(stretch, (low, high)):
            return Run(slips, across, low, high)
    return None


def _carried(job, axis, window, kind, run, push):
    """The run behind a push that can be carried."""
    along = [_moved_by(ratio, push) for ratio in row_of(run.slips, axis)]
    slips = slips_along(axis, along, row_of(run.slips, 1 - axis))
    stretch = (_moved_by(run.low, push), _moved_by(run.high, push))
    return _run_around(job, slips, axis, run.across, window, kind, stretch)


def carry_run(job, axis, window, kind, run, push):
    """The run behind a push."""
    _check_run(job, axis, window, kind, run)
    _check_push(row_of(run.slips, axis), run, push)
    return _carried(job, axis, window, check_kind(job, kind), run, push)


def _next_push(row, run):
    """A push of the least part above 0 that does not make the run narrower."""
    part = broken_parts(row)[0]
    low, high = _limits_of(row, part)
    if broken_of(run.high) == part:
        return Push(part, minus(high, part))
    return Push(part, minus(low, part))


def pushes_of(job, axis, window, kind, run):
    """Pushes that bring the run to whole slips along the axis, one behind the other."""
    _check_run(job, axis, window, kind, run)
    wanted = check_kind(job, kind)
    found = []
    now = run
    while len(broken_parts(row_of(now.slips, axis))) > 0:
        push = _next_push(row_of(now.slips, axis), now)
        found.append(push)
        now = _carried(job, axis, window, wanted, now, push)
    return tuple(found)


def whole_run(job, axis, window, kind, run):
    """A Run at whole slips that is at least as long."""
    _check_run(job, axis, window, kind, run)
    corner, ends = whole_stretch(row_of(run.slips, axis), run.low, run.high)
    cell = floor_of(run.across)
    # A plate keeps its row over the line if it slips by as many cells as the line is further.
    across = [cell - floor_of(minus(run.across, ratio)) for ratio in row_of(run.slips, 1 - axis)]
    slips = slips_along(
        axis, [make_ratio(u) for u in corner], [make_ratio(v) for v in across],
    )
    middle = plus(make_ratio(cell), HALF)
    return _run_around(job, slips, axis, middle, window, check_kind(job, kind), ratio_ends(ends))
