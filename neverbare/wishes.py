"""Wishes: what a job should grant at all slips, and why it does not."""

from neverbare.bars import bar_holds, read_bar, run_over
from neverbare.errors import BadWish, PrintError
from neverbare.kinds import is_of_kind
from neverbare.mixing import Mixed, Unmixed, never_mixed
from neverbare.needs import has_ink
from neverbare.pieces import check_group
from neverbare.ratios import compare, is_sequence, is_whole, make_ratio
from neverbare.regions import (
    Bare, Deep, are_whole_slips, bare_fault, check_region, is_one_of, never_bare,
)
from neverbare.runs import Run, run_fault
from neverbare.shows import shown_at
from neverbare.slips import middle_of_cell
from neverbare.together import Together, always_together, parted_fault
from neverbare.unseen import Seen, cover_fault, cover_of, seen_at, seen_fault
from neverbare.widest import is_inside


class Broken:
    """The index of a wish that is not granted, and why."""

    def __init__(self, index, why):
        self.index = index
        self.why = why


def _is_own(thing):
    """Whether a thing of any kind has the word and the length of a wish that is no bar."""
    if not is_sequence(thing, 2, 2) or not isinstance(thing[0], str):
        return False
    return thing[0] in ("never bare", "together")


def _read_wish(job, wish):
    """The wish with all its parts as tuples, or None for a thing of any kind that is none."""
    if not _is_own(wish):
        return read_bar(job, wish)
    word, part = wish
    try:
        return (word, check_region(part) if word == "never bare" else check_group(job, part))
    except PrintError:
        return None


def check_wishes(job, wishes):
    """The wishes, 1 to 6, with all their parts as tuples."""
    if not is_sequence(wishes, 1, 6):
        raise BadWish(0)
    found = []
    for index, wish in enumerate(wishes):
        told = _read_wish(job, wish)
        if told is None:
            raise BadWish(index)
        found.append(told)
    return tuple(found)


def _judged_ink(job, wish):
    """Whether a wish about one ink is granted, and why not."""
    word, plate, cell = wish
    if not has_ink(job, plate, cell):
        return (word == "unseen", None)
    if word == "seen":
        cover = cover_of(job, plate, cell)
        return (cover is None, cover)
    seen = seen_at(job, plate, cell)
    return (seen is None, seen)


def _judged(job, wish):
    """Whether a wish is granted, and why not."""
    word = wish[0]
    if word == "never bare":
        bare = never_bare(job, wish[1])
        return (isinstance(bare, Deep), bare)
    if word == "together":
        parted = always_together(job, wish[1])
        return (isinstance(parted, Together), parted)
    if word == "widest":
        _, axis, window, band, kind, most = wish
        run = run_over(job, axis, window, band, kind, most)
        return (run is None, run)
    if word == "never mixed":
        mixed = never_mixed(job, wish[1])
        return (isinstance(mixed, Unmixed), mixed)
    if word == "shows":
        return (bar_holds(job, wish), None)
    return _judged_ink(job, wish)


def broken_wish(job, wishes):
    """A Broken of the first wish that is not granted, or None if all are."""
    for index, wish in enumerate(check_wishes(job, wishes)):
        granted, why = _judged(job, wish)
        if not granted:
            return Broken(index, why)
    return None


def _is_over(job, wish, run):
    """Whether a thing of any kind is a Run inside the band that is longer than the wish lets."""
    _, axis, window, band, kind, most = wish
    if not isinstance(run, Run) or run_fault(job, axis, window, kind, run) is not None:
        return False
    return is_inside(run.across, band) and compare(run.length, make_ratio(most)) > 0


def _is_mixed_there(job, region, mixed):
    """Whether a thing of any kind is a Mixed of the region that is right."""
    if not isinstance(mixed, Mixed) or not is_one_of(mixed.cell, region):
        return False
    if not are_whole_slips(job, mixed.slips):
        return False
    return is_of_kind(shown_at(job, mixed.slips, middle_of_cell(mixed.cell)), "mixed")


def _is_ink_why(job, wish, why):
    """Whether a thing of any kind tells why a wish about one ink is not granted."""
    word, plate, cell = wish
    if not has_ink(job, plate, cell):
        return word == "seen" and why is None
    if word == "seen":
        return isinstance(why, tuple) and cover_fault(job, plate, cell, why) is None
    return isinstance(why, Seen) and seen_fault(job, plate, cell, why) is None


def _is_why(job, wish, why):
    """Whether a thing of any kind tells why a wish is not granted."""
    word = wish[0]
    if word == "never bare":
        return isinstance(why, Bare) and bare_fault(job, wish[1], why) is None
    if word == "together":
        return parted_fault(job, wish[1], why) is None
    if word == "widest":
        return _is_over(job, wish, why)
    if word == "never mixed":
        return _is_mixed_there(job, wish[1], why)
    if word == "shows":
        return why is None and not bar_holds(job, wish)
    return _is_ink_why(job, wish, why)


def broken_fault(job, wishes, broken):
    """None if a thing is a right Broken, otherwise the first word that applies."""
    told = check_wishes(job, wishes)
    if not isinstance(broken, Broken):
        return "broken"
    if not is_whole(broken.index, 0, len(told) - 1):
        return "index"
    return None if _is_why(job, told[broken.index], broken.why) else "why"
