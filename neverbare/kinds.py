"""Kinds of showings: bare, mixed, one plate alone, one plate among others."""

from neverbare.errors import BadKind
from neverbare.ratios import is_sequence, is_whole


def check_kind(job, kind):
    """The kind, as a tuple if it names a plate."""
    if isinstance(kind, str) and kind in ("bare", "mixed"):
        return kind
    if not is_sequence(kind, 2, 2):
        raise BadKind()
    word, plate = kind
    if not isinstance(word, str) or word not in ("alone", "shows"):
        raise BadKind()
    if not is_whole(plate, 0, len(job.plates) - 1):
        raise BadKind()
    return (word, plate)


def is_of_kind(showing, kind):
    """Whether a showing is of a kind."""
    if kind == "bare":
        return len(showing) == 0
    if kind == "mixed":
        return len(showing) > 1
    word, plate = kind
    if word == "alone":
        return len(showing) == 1 and showing[0] == plate
    return plate in showing
