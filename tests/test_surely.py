import unittest
from fractions import Fraction
from itertools import product

from neverbare.errors import BadLook, BadPlace, BadPlaces, NoSlips, OnLine
from neverbare.jobs import Job
from neverbare.plates import Plate
from neverbare.rooms import does_fit
from neverbare.surely import sure_at, two_slips, which_look
from tests.helping import (
    BAD_PLACES, ODD_THINGS, SIX, ZERO, Draws, all_tuples, as_ratio, drawn_jobs, drawn_place, drawn_slips, leaves_alone,
    number, on_no_line, plain_showing, raises, refuses,
)
from tests.test_looks import LOOK, SEEN
from tests.test_rooms import bad_looks, drawn_looks, plain_fits

HALF = (1, 2)
BOUNDS = ((0, 0), (1, 0), (0, 1), (1, 1))
BAD_LISTS = [(thing, {}) for thing in (
    [], (), [LOOK[0]] * 5, [LOOK[0], None], [(ZERO,)], {0: 1}, [(HALF, (2, 4))], *ODD_THINGS)]


def plain_samples(job, places):
    """Slips in all parts into which the lines through these places part the slips of the job."""
    layers = []
    for plate in job.plates:
        sides = []
        for axis in (0, 1):
            bound = plate.bound[axis]
            cuts = {Fraction(-bound), Fraction(bound)}
            for place in places:
                cuts |= {number(place[axis]) - whole for whole in range(-20, 21)
                         if abs(number(place[axis]) - whole) < bound}
            cuts = sorted(cuts)
            sides.append([ZERO] if bound == 0 else [as_ratio((a + b) / 2) for a, b in zip(cuts, cuts[1:])])
        layers.append(list(product(*sides)))
    return list(product(*layers))


def free_place(draws, job):
    """A place on no line that no slips move."""
    while True:
        place = drawn_place(draws, job, (2, 3, 4))
        if not any(plate.bound[axis] == 0 and place[axis][1] == 1 for plate in job for axis in (0, 1)):
            return place


def small_cases(seed, many):
    """Jobs with looks that some slips fit, of few enough parts to try them all."""
    draws = Draws(seed)
    for job in drawn_jobs(seed + 1, many, bounds=BOUNDS):
        if len(job) == 3 and sum(sum(plate.bound) for plate in job) > 4:
            continue
        yield job, drawn_looks(draws, job, draws.below(3), drawn_slips(draws, job))


class TestSureAt(unittest.TestCase):
    def test_told_values(self):
        found = leaves_alone(self, sure_at, SEEN, [[LOOK[0], [0]]], [(5, 2), HALF])
        # Plate 1 has slipped by more than 1/2, so its cell 1 or 2 lies over 5/2.
        self.assertEqual(found, ((1,),))
        self.assertEqual(sure_at(SEEN, [LOOK], (HALF, HALF)), ((), (0,)))
        self.assertEqual(sure_at(SEEN, [LOOK], ((5, 4), HALF)), ((0,),))
        self.assertEqual(sure_at(SEEN, (), ((3, 2), HALF)), ((), (0,), (1,)))
        self.assertEqual(sure_at(SEEN, (), ((9, 1), HALF)), ((),))
        all_tuples(self, sure_at(SEEN, (), ((3, 2), HALF)))
        self.assertEqual(sure_at(SEEN, [LOOK], LOOK[0]), ((0,),))

    def test_by_trying_all_parts(self):
        draws = Draws(881)
        sizes = set()
        for job, looks in small_cases(882, 120):
            place = free_place(draws, job)
            shown = {plain_showing(job, slips, place)
                     for slips in plain_samples(job, [place, *[look[0] for look in looks]])
                     if plain_fits(job, looks, slips)}
            found = sure_at(job, looks, place)
            self.assertEqual(found, tuple(sorted(shown)))
            sizes.add(len(found))
            two = two_slips(job, looks, place)
            if len(found) == 1:
                self.assertIsNone(two)
                continue
            all_tuples(self, two)
            self.assertEqual(len(two), 2)
            self.assertTrue(all(does_fit(job, looks, slips) for slips in two))
            self.assertTrue(all(on_no_line(job, slips, place) for slips in two))
            self.assertNotEqual(plain_showing(job, two[0], place), plain_showing(job, two[1], place))
        self.assertLessEqual({1, 2, 3}, sizes)

    def test_drawn_slips_that_fit(self):
        draws = Draws(883)
        met = 0
        for job in drawn_jobs(884, 80, bounds=((1, 1), (2, 1), (0, 2))):
            slips = drawn_slips(draws, job)
            looks = drawn_looks(draws, job, 3, slips)
            place = drawn_place(draws, job)
            if on_no_line(job, slips, place):
                met += 1
                self.assertIn(plain_showing(job, slips, place), sure_at(job, looks, place))
        self.assertGreater(met, 40)

    def test_errors(self):
        for call, place in ((sure_at, LOOK[0]), (two_slips, LOOK[0]), (which_look, [LOOK[0]])):
            refuses(self, call, [SEEN, [], place], 1, BadLook, bad_looks())
            none = [(LOOK[0], ()), LOOK]
            raises(self, NoSlips, {"plate": 0}, call, SEEN, none, place)
        for call in (sure_at, two_slips):
            refuses(self, call, [SEEN, [(LOOK[0], ()), LOOK], None], 2, BadPlace, BAD_PLACES)
            raises(self, OnLine, {"plate": 0}, call, SEEN, [(LOOK[0], ()), LOOK], (HALF, ZERO))

    def test_the_least_plate_with_a_line_at_all_slips(self):
        job = Job(3, 1, [Plate([], False, (1, 1)), Plate([(0, 0)], False, (0, 1)), Plate([], False, (0, 0))])
        for call in (sure_at, two_slips):
            raises(self, OnLine, {"plate": 1}, call, job, (), ((1, 1), HALF))
            raises(self, OnLine, {"plate": 2}, call, job, (), (HALF, (1, 1)))
            raises(self, OnLine, {"plate": 1}, call, job, (), ((1, 1), (1, 1)))
        raises(self, OnLine, {"plate": 2}, which_look, job, (), [(HALF, HALF), (HALF, (1, 1)), ((1, 1), HALF)])


class TestWhichLook(unittest.TestCase):
    def test_told_values(self):
        places = [[(9, 1), HALF], (HALF, HALF), ((5, 4), HALF)]
        self.assertEqual(leaves_alone(self, which_look, SEEN, [LOOK], places), 1)
        self.assertEqual(which_look(SEEN, [LOOK], places[:1] * 4), 0)
        self.assertEqual(which_look(SIX, (), [((5, 2), HALF), ((9, 4), HALF)]), 0)

    def test_the_least_of_those_with_most(self):
        draws = Draws(885)
        met = set()
        for job, looks in small_cases(886, 80):
            places = [free_place(draws, job) for _ in range(1 + draws.below(4))]
            counts = [len(sure_at(job, looks, place)) for place in places]
            found = which_look(job, looks, places)
            self.assertEqual(found, counts.index(max(counts)))
            met.add(found)
        self.assertLessEqual({0, 1, 2}, met)

    def test_errors(self):
        refuses(self, which_look, [SEEN, [(LOOK[0], ()), LOOK], None], 2, BadPlaces, BAD_LISTS)
        raises(self, OnLine, {"plate": 0}, which_look, SEEN, [(LOOK[0], ()), LOOK], [LOOK[0], (HALF, ZERO)])
        raises(self, BadPlaces, {}, which_look, SEEN, (), [(HALF, ZERO), None])


if __name__ == "__main__":
    unittest.main()
