"""Mends: which changes of a pool make a job grant all wishes."""

from neverbare.changes import check_changes, with_changes
from neverbare.errors import BadChange
from neverbare.ratios import is_ascending, is_sequence, number_choices
from neverbare.wishes import broken_fault, broken_wish, check_wishes


class Mends:
    """All least choices of a pool, and couples (choice, Broken) of those that have none within."""

    def __init__(self, least, losses):
        self.least = least
        self.losses = losses

    @property
    def needed(self):
        """The indices that are in every least choice, ascending; none if there is none."""
        if len(self.least) == 0:
            return ()
        return tuple([
            index for index in self.least[0] if all([index in choice for choice in self.least])
        ])


class Spoiler:
    """A least choice that is good no more with one index added, and why."""

    def __init__(self, choice, added, broken):
        self.choice = choice
        self.added = added
        self.broken = broken


def _check_pool(job, pool):
    """The changes of a pool as a tuple of tuples."""
    if not is_sequence(pool, 1, 5):
        raise BadChange(0, "pool")
    return check_changes(job, pool)


def _all_choices(many):
    """All choices of a pool of so many changes, in order."""
    return [choice for size in range(many + 1) for choice in number_choices(many, size)]


def _job_behind(job, pool, choice):
    """The job behind a choice of a checked pool."""
    return with_changes(job, [pool[index] for index in choice])


def _is_part(one, other):
    """Whether all indices of one choice are in another one."""
    return all([index in other for index in one])


def _has_one_within(choice, choices):
    """Whether one of the choices is a part of the choice, or the choice itself."""
    return any([_is_part(one, choice) for one in choices])


def _mends_of(job, pool, wishes):
    """The Mends of a checked pool."""
    least = []
    losses = []
    for choice in _all_choices(len(pool)):
        if not _has_one_within(choice, least):
            broken = broken_wish(_job_behind(job, pool, choice), wishes)
            if broken is None:
                least.append(choice)
            else:
                losses.append((choice, broken))
    return Mends(tuple(least), tuple(losses))


def find_mends(job, pool, wishes):
    """The Mends of a pool."""
    changes = _check_pool(job, pool)
    return _mends_of(job, changes, check_wishes(job, wishes))


def _are_choices(things, many):
    """Whether things of any kind are unlike choices of a pool of so many changes, in order."""
    if not all([isinstance(thing, tuple) and is_ascending(thing, many) for thing in things]):
        return False
    keys = [(len(thing), thing) for thing in things]
    return all([keys[k] < keys[k + 1] for k in range(len(keys) - 1)])


def _are_losses(losses, many):
    """Whether a thing of any kind is a tuple of couples of choices, in order, and other things."""
    if not isinstance(losses, tuple):
        return False
    if not all([isinstance(row, tuple) and len(row) == 2 for row in losses]):
        return False
    return _are_choices([row[0] for row in losses], many)


def _is_mends(thing, many):
    """Whether a thing of any kind is a Mends with choices of a pool of so many changes."""
    if not isinstance(thing, Mends) or not isinstance(thing.least, tuple):
        return False
    return _are_choices(thing.least, many) and _are_losses(thing.losses, many)


def _choices_fault(least, lost, many):
    """What is wrong with the choices told as least and as lost, whatever stands behind them."""
    for one in least:
        others = [choice for choice in least if choice != one]
        if _has_one_within(one, others) or any([_is_part(one, choice) for choice in lost]):
            return "within"
    for choice in _all_choices(many):
        if not _has_one_within(choice, least) and choice not in lost:
            return "lacking"
    return None


def mends_fault(job, pool, wishes, mends):
    """None if a thing is the right Mends of a pool, otherwise the first word that applies."""
    changes = _check_pool(job, pool)
    told = check_wishes(job, wishes)
    if not _is_mends(mends, len(changes)):
        return "mends"
    word = _choices_fault(mends.least, [row[0] for row in mends.losses], len(changes))
    if word is not None:
        return word
    for choice in mends.least:
        if broken_wish(_job_behind(job, changes, choice), told) is not None:
            return "good"
    for choice, broken in mends.losses:
        if broken_fault(_job_behind(job, changes, choice), told, broken) is not None:
            return "broken"
    return None


def find_spoilers(job, pool, wishes):
    """All Spoilers: indices that a least choice does not bear."""
    changes = _check_pool(job, pool)
    told = check_wishes(job, wishes)
    found = []
    for choice in _mends_of(job, changes, told).least:
        for added in range(len(changes)):
            if added not in choice:
                more = tuple(sorted([*choice, added]))
                broken = broken_wish(_job_behind(job, changes, more), told)
                if broken is not None:
                    found.append(Spoiler(choice, added, broken))
    return tuple(found)
