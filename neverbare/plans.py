"""Plans: which places to look at one after another to be sure what a goal shows."""

from neverbare.looks import check_looks
from neverbare.places import as_whole_numbers
from neverbare.ratios import is_whole
from neverbare.slips import check_place
from neverbare.surely import check_free, check_places, pictures_that_fit


class Known:
    """A plan that asks nothing: the goal has this showing."""

    def __init__(self, showing):
        self.showing = showing

    @property
    def depth(self):
        """How many places are asked at most."""
        return 0


class Ask:
    """A plan that asks the place with this index: couples (showing, plan) tell how to go on."""

    def __init__(self, index, answers):
        self.index = index
        self.answers = answers

    @property
    def depth(self):
        """How many places are asked at most."""
        return 1 + max([plan.depth for _, plan in self.answers], default=0)


class Untold:
    """Slips, and other ones, that show alike at all places and unlike at the goal."""

    def __init__(self, slips, other):
        self.slips = slips
        self.other = other


def _rows_of(job, looks, places, goal):
    """Couples (what the places and at last the goal show together, slips), once all is checked."""
    told = check_looks(job, looks)
    spots = (*check_places(places), check_place(goal))
    check_free(job, spots)
    return pictures_that_fit(job, told, spots)


def _untold_in(rows):
    """An Untold if some pictures are alike but for the goal, otherwise None."""
    known = {}
    for picture, slips in rows:
        seen = picture[:-1]
        if seen in known:
            return Untold(known[seen], slips)
        known[seen] = slips
    return None


def _parts_by(pictures, index):
    """Couples (showing, pictures that have it at the place with this index), ascending."""
    found = {}
    for picture in pictures:
        found.setdefault(picture[index], []).append(picture)
    return [(showing, found[showing]) for showing in sorted(list(found))]


def _least_plan(pictures, left):
    """A plan of the least depth for these pictures that asks only the places that are left."""
    goals = sorted({picture[-1] for picture in pictures})
    if len(goals) == 1:
        return Known(goals[0])
    best = None
    for index in left:
        others = [one for one in left if one != index]
        parts = _parts_by(pictures, index)
        plan = Ask(index, tuple([(showing, _least_plan(part, others)) for showing, part in parts]))
        if best is None or plan.depth < best.depth:
            best = plan
    return best


def _least_plan_of(rows):
    """A plan of the least depth for rows of which the places tell the goal."""
    pictures = [picture for picture, _ in rows]
    return _least_plan(pictures, list(range(len(pictures[0]) - 1)))


def plan_for(job, looks, places, goal):
    """A plan of the least depth, or an Untold if there is no plan."""
    rows = _rows_of(job, looks, places, goal)
    untold = _untold_in(rows)
    return _least_plan_of(rows) if untold is None else untold


def _is_ask(thing, many):
    """Whether a thing of any kind asks one of so many places and has couples as answers."""
    if not isinstance(thing, Ask) or not is_whole(thing.index, 0, many - 1):
        return False
    if not isinstance(thing.answers, tuple):
        return False
    return all([isinstance(answer, tuple) and len(answer) == 2 for answer in thing.answers])


def _walk_fault(plan, pictures):
    """The first word met in a plan for these pictures, or None."""
    if isinstance(plan, Known):
        told = as_whole_numbers(plan.showing)
        return None if all([picture[-1] == told for picture in pictures]) else "sure"
    if not _is_ask(plan, len(pictures[0]) - 1):
        return "plan"
    parts = _parts_by(pictures, plan.index)
    showings = [as_whole_numbers(answer[0]) for answer in plan.answers]
    if showings != [showing for showing, _ in parts]:
        return "answers"
    for answer, row in zip(plan.answers, parts):
        word = _walk_fault(answer[1], row[1])
        if word is not None:
            return word
    return None


def plan_fault(job, looks, places, goal, plan):
    """None if a thing is a plan of the least depth, otherwise the first word met."""
    rows = _rows_of(job, looks, places, goal)
    word = _walk_fault(plan, [picture for picture, _ in rows])
    if word is not None:
        return word
    return "long" if plan.depth > _least_plan_of(rows).depth else None
