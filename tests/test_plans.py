import unittest
from fractions import Fraction

from neverbare.errors import BadLook, BadPlace, BadPlaces, NoSlips, OnLine
from neverbare.jobs import Job
from neverbare.plans import Ask, Known, Untold, plan_fault, plan_for
from neverbare.plates import Plate
from neverbare.rooms import does_fit
from neverbare.surely import sure_at
from tests.helping import (
    BAD_PLACES, ODD_THINGS, SIX, ZERO, Draws, all_tuples, as_ratio, drawn_jobs, drawn_slips, leaves_alone,
    on_no_line, plain_showing, raises, refuses,
)
from tests.test_looks import LOOK, SEEN
from tests.test_rooms import bad_looks, drawn_looks, plain_fits
from tests.test_surely import BAD_LISTS, free_place, plain_samples, small_cases

HALF = (1, 2)
NONE = [(LOOK[0], ()), LOOK]


def at(top, bottom=1):
    return ((top, bottom), HALF)


# The goal lies at the last place; the first one is always bare, the second one tells too little.
GOAL = at(9, 4)
PLACES = (at(21, 2), at(5, 2), at(9, 4))
RIGHT = Ask(2, (((), Known(())), ((0,), Known((0,))), ((0, 1), Known((0, 1))), ((1,), Known((1,)))))


def plain_pictures(job, looks, places, goal):
    """What the places and the goal can show together, by trying all parts of the slips."""
    spots = [*places, goal]
    return {tuple(plain_showing(job, slips, spot) for spot in spots)
            for slips in plain_samples(job, [*spots, *[look[0] for look in looks]]) if plain_fits(job, looks, slips)}


def plain_depth(pictures, many):
    """The least depth of a plan for these pictures, None if there is none."""
    if len({picture[-1] for picture in pictures}) == 1:
        return 0
    best = None
    for index in range(many):
        answers = {picture[index] for picture in pictures}
        if len(answers) > 1:
            depths = [plain_depth({one for one in pictures if one[index] == answer}, many) for answer in answers]
            if None not in depths and (best is None or 1 + max(depths) < best):
                best = 1 + max(depths)
    return best


def follow(case, plan, job, slips, places, goal):
    """Plays a plan on the sheet of these slips."""
    while isinstance(plan, Ask):
        plan = dict(plan.answers)[plain_showing(job, slips, places[plan.index])]
    case.assertEqual(plan.showing, plain_showing(job, slips, goal))


def all_parts(case, plan):
    case.assertIsInstance(plan, (Known, Ask))
    if isinstance(plan, Known):
        all_tuples(case, plan.showing)
        return
    case.assertIsInstance(plan.answers, tuple)
    for answer in plan.answers:
        case.assertIsInstance(answer, tuple)
        all_tuples(case, answer[0])
        all_parts(case, answer[1])


def plan_cases(seed, many):
    """Jobs with looks, places and a goal that the places often tell."""
    draws = Draws(seed)
    for job, looks in small_cases(seed + 1, many):
        places = [free_place(draws, job) for _ in range(1 + draws.below(3))]
        yield job, looks, places, draws.one_of(places) if draws.below(2) else free_place(draws, job)
    for job in drawn_jobs(seed + 2, 4 * many, width=4, height=1, bounds=((1, 0), (2, 0))):
        if len(job) < 3:
            # Places a whole number apart often tell of one another.
            part = Fraction(1 + draws.below(3), 4)
            spots = [(as_ratio(part * draws.below(2) + draws.below(5)), HALF) for _ in range(5)]
            looks = drawn_looks(draws, job, draws.below(2), drawn_slips(draws, job))
            yield job, looks, spots[:2 + draws.below(3)], spots[4]


class TestPlanFor(unittest.TestCase):
    def test_depths(self):
        self.assertEqual(Known((0,)).depth, 0)
        deep = Ask(0, (((), Known(())), ((0,), Ask(1, (((), Known(())),)))))
        self.assertEqual(deep.depth, 2)
        self.assertEqual(RIGHT.depth, 1)
        self.assertEqual((RIGHT.index, len(RIGHT.answers)), (2, 4))

    def test_told_values(self):
        found = leaves_alone(self, plan_for, SIX, (), [list(place) for place in PLACES], list(GOAL))
        self.assertEqual((found.index, found.depth), (2, 1))
        self.assertEqual([showing for showing, _ in found.answers], [showing for showing, _ in RIGHT.answers])
        self.assertIsInstance(plan_for(SIX, (), [at(1, 2)], at(30)), Known)
        self.assertEqual(plan_for(SIX, (), [at(1, 2)], at(30)).showing, ())
        sure = plan_for(SEEN, [LOOK], [at(1, 2)], at(5, 2))
        self.assertEqual((sure.showing, sure.depth), ((1,), 0))
        untold = plan_for(SIX, (), PLACES[:2], GOAL)
        self.assertIsInstance(untold, Untold)

    def test_each_plate_must_be_asked(self):
        """Plate p alone has ink in row p, the same as in row 3, where the goal lies."""
        for hiding in ((False, False, False), (False, True, False), (True, False, True)):
            job = Job(3, 4, [Plate([(1, row), (1, 3)], hides, (1, 0)) for row, hides in enumerate(hiding)])
            places = [((3, 2), (2 * row + 1, 2)) for row in (2, 0, 1)]
            goal = ((3, 2), (7, 2))
            found = plan_for(job, (), places, goal)
            self.assertEqual(found.depth, 3)
            self.assertIsNone(plan_fault(job, (), places, goal, found))
            for slips in plain_samples(job, [goal])[::5]:
                follow(self, found, job, slips, places, goal)
            self.assertIsInstance(plan_for(job, (), places[:2], goal), Untold)
            seen = [(places[0], (2,))]
            self.assertEqual(plan_for(job, seen, places, goal).depth, 0 if hiding[2] else 2)
            self.assertEqual(plan_for(job, seen, [goal, *places], goal).depth, 0 if hiding[2] else 1)

    def test_by_trying_all_parts(self):
        met = {}
        for job, looks, places, goal in plan_cases(891, 150):
            pictures = plain_pictures(job, looks, places, goal)
            depth = plain_depth(pictures, len(places))
            found = plan_for(job, looks, places, goal)
            met[depth] = met.get(depth, 0) + 1
            if depth is None:
                self.assertIsInstance(found, Untold)
                all_tuples(self, (found.slips, found.other))
                told = []
                for slips in (found.slips, found.other):
                    self.assertTrue(does_fit(job, looks, slips))
                    self.assertTrue(all(on_no_line(job, slips, place) for place in (*places, goal)))
                    told.append([plain_showing(job, slips, place) for place in (*places, goal)])
                self.assertEqual(told[0][:-1], told[1][:-1])
                self.assertNotEqual(told[0][-1], told[1][-1])
                self.assertEqual(plan_fault(job, looks, places, goal, found), "plan")
                self.assertEqual(plan_fault(job, looks, places, goal, Known(sure_at(job, looks, goal)[0])), "sure")
                continue
            self.assertEqual(found.depth, depth)
            all_parts(self, found)
            self.assertIsNone(plan_fault(job, looks, places, goal, found))
            for slips in plain_samples(job, [*places, goal, *[look[0] for look in looks]])[::7]:
                if plain_fits(job, looks, slips):
                    follow(self, found, job, slips, places, goal)
        self.assertGreater(min(met.get(depth, 0) for depth in (None, 0, 1)), 5)
        self.assertGreater(met.get(2, 0), 0)

    def test_plans_played_on_printed_sheets(self):
        draws = Draws(893)
        met = 0
        for job, _, places, goal in plan_cases(894, 60):
            slips = drawn_slips(draws, job)
            looks = drawn_looks(draws, job, 2, slips)
            found = plan_for(job, looks, places, goal)
            if not isinstance(found, Untold) and all(on_no_line(job, slips, place) for place in (*places, goal)):
                met += 1
                follow(self, found, job, slips, places, goal)
        self.assertGreater(met, 20)

    def test_a_place_asked_twice_and_the_goal_itself(self):
        self.assertEqual(plan_for(SIX, (), [GOAL, GOAL], GOAL).depth, 1)
        self.assertEqual(plan_for(SIX, (), [GOAL, GOAL], GOAL).index, 0)

    def test_results_keep_what_they_are_given(self):
        for made, names in ((Known([0]), ["showing"]), (Ask("a", [1]), ["index", "answers"]),
                            (Untold(None, 7), ["slips", "other"])):
            self.assertEqual(list(vars(made)), names)
        self.assertEqual((Untold(None, 7).slips, Untold(None, other=7).other), (None, 7))

    def test_errors(self):
        for call, more in ((plan_for, []), (plan_fault, [None])):
            refuses(self, call, [SEEN, [], [LOOK[0]], LOOK[0], *more], 1, BadLook, bad_looks())
            refuses(self, call, [SEEN, NONE, None, LOOK[0], *more], 2, BadPlaces, BAD_LISTS)
            refuses(self, call, [SEEN, NONE, [(HALF, ZERO)], None, *more], 3, BadPlace, BAD_PLACES)
            raises(self, OnLine, {"plate": 0}, call, SEEN, NONE, [LOOK[0], (HALF, ZERO)], LOOK[0], *more)
            raises(self, OnLine, {"plate": 0}, call, SEEN, NONE, [LOOK[0]], (HALF, (-3, 1)), *more)
            raises(self, NoSlips, {"plate": 0}, call, SEEN, NONE, [LOOK[0]], LOOK[0], *more)

    def test_the_places_are_asked_for_lines_before_the_goal(self):
        turned = SEEN.turned()  # no plate slips along x
        job = SEEN.with_bound(0, (0, 1))  # plate 0 slips along y alone, plate 1 along x alone
        for call, more in ((plan_for, []), (plan_fault, [None])):
            raises(self, OnLine, {"plate": 1}, call, job, (), [((1, 3), (1, 1))], ((1, 1), (1, 3)), *more)
            raises(self, OnLine, {"plate": 0}, call, job, (), [((1, 1), (1, 3))], ((1, 3), (1, 1)), *more)
            raises(self, OnLine, {"plate": 0}, call, turned, (), [((1, 3), (1, 1))], ((1, 1), (1, 1)), *more)


class TestPlanFault(unittest.TestCase):
    def fault(self, plan):
        return leaves_alone(self, plan_fault, SIX, (), PLACES, GOAL, plan)

    def test_right_ones(self):
        self.assertIsNone(self.fault(RIGHT))
        self.assertIsNone(plan_fault(SIX, (), PLACES, at(30), Known(())))
        self.assertIsNone(self.fault(plan_for(SIX, (), PLACES, GOAL)))

    def test_plan(self):
        for thing in ((), Untold(None, None), *ODD_THINGS):
            self.assertEqual(self.fault(thing), "plan")
        for index in (3, -1, True, False, "0", None, (0,)):
            self.assertEqual(self.fault(Ask(index, RIGHT.answers)), "plan")
        for answers in (list(RIGHT.answers), None, ((),), (((),),), tuple(list(row) for row in RIGHT.answers),
                        (*RIGHT.answers, 7), {}):
            self.assertEqual(self.fault(Ask(2, answers)), "plan")
        within = (*RIGHT.answers[:3], ((1,), 7))
        self.assertEqual(self.fault(Ask(2, within)), "plan")

    def test_answers(self):
        rows = RIGHT.answers
        for answers in ((), rows[:3], rows[1:], rows[::-1], (*rows, rows[-1]), (*rows, ((5,), Known(()))),
                        (rows[1], rows[0], *rows[2:]), (*rows[:3], ((True,), Known((1,))))):
            self.assertEqual(self.fault(Ask(2, answers)), "answers")
        self.assertEqual(self.fault(Ask(0, rows)), "answers")  # place 0 is always bare

    def test_answers_given_on_the_way(self):
        """Behind an answer the same place has this one answer only."""
        again = Ask(2, tuple((showing, Ask(2, ((showing, plan),))) for showing, plan in RIGHT.answers))
        self.assertEqual(self.fault(again), "long")
        wrong = Ask(2, tuple((showing, RIGHT) for showing, _ in RIGHT.answers))
        self.assertEqual(self.fault(wrong), "answers")

    def test_sure(self):
        for showing in ((), (0,), (0, 1), (1,), None, 7):
            self.assertEqual(self.fault(Known(showing)), "sure")
        self.assertEqual(self.fault(Ask(2, (*RIGHT.answers[:3], ((1,), Known((True,)))))), "sure")
        self.assertEqual(self.fault(Ask(0, (((), Known(())),))), "sure")

    def test_long(self):
        self.assertEqual(self.fault(Ask(0, (((), RIGHT),))), "long")
        self.assertEqual(plan_fault(SIX, (), PLACES, at(30), Ask(0, (((), Known(())),))), "long")
        deep = Known(())
        for _ in range(20):
            deep = Ask(0, (((), deep),))
        self.assertEqual(plan_fault(SIX, (), PLACES, at(30), deep), "long")

    def test_the_first_word_met(self):
        rows = RIGHT.answers
        self.assertEqual(self.fault(Ask(2, (rows[0], ((0,), Known((1,))), ((0, 1), 7), rows[3]))), "sure")
        self.assertEqual(self.fault(Ask(2, (rows[0], ((0,), 7), ((0, 1), Known(())), rows[3]))), "plan")
        self.assertEqual(self.fault(Ask(2, (((), 7), *rows[1:3]))), "answers")
        self.assertEqual(self.fault(Ask(2, (((), Ask(2, ())), ((0,), 7), *rows[2:]))), "answers")
        self.assertEqual(self.fault(Ask(2, (((), Ask(0, (((), Known((1,))),))), ((0,), 7), *rows[2:]))), "sure")


if __name__ == "__main__":
    unittest.main()
