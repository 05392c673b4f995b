import unittest
from fractions import Fraction
from math import ceil

from neverbare.errors import BadAxis, BadPlace, BadSlips
from neverbare.jobs import Job
from neverbare.plates import Plate
from neverbare.slips import (
    all_whole_slips, check_place, check_slips, finer_slips, is_whole_slips, middle_of_cell,
    mirrored_slips, nearest_slips, turned_slips, whole_slips_of,
)
from tests.helping import (
    ODD_THINGS, Draws, all_tuples, as_ratio, cells_about, drawn_jobs, drawn_slips, leaves_alone,
    middle, plain_on, raises, whole_slips,
)

JOB = Job(2, 1, [Plate([(0, 0)], False, (1, 0)), Plate([(1, 0)], True, (2, 1))])
ZERO = (0, 1)
NO_RATIOS = ([0, 1], (0, 2), 0, (2, 4), (True, 1), None, "0", (1, -1))


class TestCheckSlips(unittest.TestCase):
    def test_slips(self):
        told = [[(1, 2), (0, 1)], [(-2, 1), (1, 1)]]
        found = leaves_alone(self, check_slips, JOB, told)
        self.assertEqual(found, (((1, 2), (0, 1)), ((-2, 1), (1, 1))))
        all_tuples(self, found)
        told[0][0] = (1, 1)
        self.assertEqual(found[0][0], (1, 2))

    def test_many(self):
        slip = (ZERO, ZERO)
        for thing in ([], [slip], [slip] * 3, [None], {0: slip, 1: slip}, *ODD_THINGS):
            raises(self, BadSlips, {"index": 0, "what": "many"}, check_slips, JOB, thing)

    def test_slip(self):
        for ratio in NO_RATIOS:
            for slip in ((ratio, ZERO), [ZERO, ratio]):
                raises(self, BadSlips, {"index": 1, "what": "slip"}, check_slips, JOB, [(ZERO, ZERO), slip])
                raises(self, BadSlips, {"index": 0, "what": "slip"}, check_slips, JOB, [slip, None])
        for slip in ((), (ZERO,), (ZERO, ZERO, ZERO), *ODD_THINGS):
            raises(self, BadSlips, {"index": 0, "what": "slip"}, check_slips, JOB, [slip, (ZERO, ZERO)])

    def test_bound(self):
        for slip in (((2, 1), ZERO), ((-2, 1), ZERO), ((11, 10), ZERO), ((-11, 10), ZERO),
                     (ZERO, (1, 10)), (ZERO, (-1, 10))):
            raises(self, BadSlips, {"index": 0, "what": "bound"}, check_slips, JOB, [slip, None])
        for slip in (((21, 10), ZERO), ((-21, 10), ZERO), (ZERO, (3, 2)), (ZERO, (-3, 2))):
            raises(self, BadSlips, {"index": 1, "what": "bound"}, check_slips, JOB, [(ZERO, ZERO), slip])

    def test_the_bounds_themselves(self):
        for u in ((1, 1), (-1, 1), (99, 100)):
            for v in ((1, 1), (-1, 1)):
                slips = ((u, ZERO), ((2, 1), v))
                self.assertEqual(check_slips(JOB, slips), slips)
        self.assertEqual(check_slips(JOB, ((ZERO, ZERO), ((-2, 1), ZERO)))[1][0], (-2, 1))


class TestWholeSlips(unittest.TestCase):
    def test_is_whole(self):
        self.assertIs(is_whole_slips(JOB, [((1, 1), ZERO), ((-2, 1), (1, 1))]), True)
        for at in range(4):
            ratios = [ZERO, ZERO, ZERO, ZERO]
            ratios[at] = (1, 2)
            job = JOB.with_bound(0, (1, 1))
            self.assertIs(is_whole_slips(job, [ratios[:2], ratios[2:]]), False)

    def test_is_whole_errors(self):
        raises(self, BadSlips, {"index": 0, "what": "many"}, is_whole_slips, JOB, None)
        raises(self, BadSlips, {"index": 0, "what": "slip"}, is_whole_slips, JOB, [(0, 0), None])
        raises(self, BadSlips, {"index": 0, "what": "bound"}, is_whole_slips, JOB, [((1, 2), (1, 2)), None])

    def test_all(self):
        self.assertEqual(list(all_whole_slips(Job(1, 1, [Plate([], False, (1, 0))]))), [
            (((-1, 1), ZERO),), ((ZERO, ZERO),), (((1, 1), ZERO),)])
        for job in [JOB, *drawn_jobs(41, 15)]:
            found = list(all_whole_slips(job))
            self.assertEqual(found, sorted(whole_slips(job)))
            all_tuples(self, tuple(found))
            self.assertEqual(len(found), len(set(found)))
            for slips in found:
                self.assertTrue(is_whole_slips(job, slips))

    def test_all_is_a_generator(self):
        self.assertIs(iter(all_whole_slips(JOB)).__class__, (x for x in ()).__class__)

    def test_whole_slips_of_a_plate(self):
        self.assertEqual(whole_slips_of(Plate([], False, (0, 1))), (
            (ZERO, (-1, 1)), (ZERO, ZERO), (ZERO, (1, 1))))
        self.assertEqual(len(whole_slips_of(Plate([], False, (2, 2)))), 25)


class TestPlaces(unittest.TestCase):
    def test_check_place(self):
        found = leaves_alone(self, check_place, [(1, 2), (-7, 3)])
        self.assertEqual(found, ((1, 2), (-7, 3)))
        all_tuples(self, found)

    def test_no_place(self):
        for thing in ((), (ZERO,), (ZERO, ZERO, ZERO), (0, 0), {ZERO: ZERO}, *ODD_THINGS):
            raises(self, BadPlace, {}, check_place, thing)
        for ratio in NO_RATIOS:
            raises(self, BadPlace, {}, check_place, (ratio, ZERO))
            raises(self, BadPlace, {}, check_place, [ZERO, ratio])

    def test_middle(self):
        for cell in ((0, 0), [3, -4], (-20, 20)):
            self.assertEqual(middle_of_cell(cell), middle(cell))
        self.assertEqual(middle_of_cell((0, -1)), ((1, 2), (-1, 2)))


class TestNearest(unittest.TestCase):
    def test_told_values(self):
        job = Job(1, 1, [Plate([], False, (2, 2))])
        for number in (Fraction(k, 12) for k in range(-24, 25)):
            wanted = (ceil(number - Fraction(1, 2)), 1)
            self.assertEqual(nearest_slips(job, [[as_ratio(number), ZERO]]), ((wanted, ZERO),))
            self.assertEqual(nearest_slips(job, [[ZERO, as_ratio(number)]]), ((ZERO, wanted),))
        self.assertEqual(nearest_slips(job, [((1, 2), (-1, 2))]), ((ZERO, (-1, 1)),))

    def test_same_cells_over_middles(self):
        draws = Draws(14)
        for job in drawn_jobs(42, 30):
            slips = drawn_slips(draws, job)
            near = leaves_alone(self, nearest_slips, job, [list(slip) for slip in slips])
            self.assertTrue(is_whole_slips(job, near))
            all_tuples(self, near)
            for cell in cells_about(job):
                for plate, slip, whole in zip(job.plates, slips, near):
                    shown = plain_on(plate, slip, middle(cell))
                    if shown is not None:
                        self.assertEqual(shown, plain_on(plate, whole, middle(cell)))

    def test_errors(self):
        raises(self, BadSlips, {"index": 0, "what": "many"}, nearest_slips, JOB, [])
        raises(self, BadSlips, {"index": 1, "what": "slip"}, nearest_slips, JOB, [(ZERO, ZERO), None])
        raises(self, BadSlips, {"index": 0, "what": "bound"}, nearest_slips, JOB, [((3, 2), ZERO), None])


class TestSlipsSeenOtherwise(unittest.TestCase):
    SLIPS = (((1, 2), (-1, 3)), ((-2, 1), (0, 1)), ((9, 1), (5, 7)))

    def test_mirrored(self):
        self.assertEqual(mirrored_slips(self.SLIPS, 0),
                         (((-1, 2), (-1, 3)), ((2, 1), (0, 1)), ((-9, 1), (5, 7))))
        self.assertEqual(mirrored_slips(self.SLIPS, 1),
                         (((1, 2), (1, 3)), ((-2, 1), (0, 1)), ((9, 1), (-5, 7))))
        for thing in (2, -1, *ODD_THINGS):
            raises(self, BadAxis, {"axis": thing}, mirrored_slips, self.SLIPS, thing)

    def test_turned(self):
        self.assertEqual(turned_slips(self.SLIPS),
                         (((1, 3), (1, 2)), ((0, 1), (-2, 1)), ((-5, 7), (9, 1))))

    def test_finer(self):
        self.assertEqual(finer_slips(self.SLIPS, 2),
                         (((1, 1), (-2, 3)), ((-4, 1), (0, 1)), ((18, 1), (10, 7))))
        self.assertEqual(finer_slips(self.SLIPS, 3)[0], ((3, 2), (-1, 1)))

    def test_lists_and_new_tuples(self):
        told = [list(slip) for slip in self.SLIPS]
        for found in (leaves_alone(self, mirrored_slips, told, 0), leaves_alone(self, mirrored_slips, told, 1),
                      leaves_alone(self, turned_slips, told), leaves_alone(self, finer_slips, told, 2)):
            all_tuples(self, found)
        self.assertEqual(turned_slips([]), ())


if __name__ == "__main__":
    unittest.main()
