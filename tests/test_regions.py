import unittest

from neverbare.jobs import Job
from neverbare.plates import Plate
from neverbare.regions import (
    Bare, Deep, bare_cells, bare_fault, check_region, deep_fault, never_bare,
)
from tests.helping import (
    Draws, all_tuples, bad_regions, drawn_jobs, drawn_region, leaves_alone, middle, plain_showing,
    whole_slips,
)

ZERO = (0, 1)
LEFT, STILL, RIGHT = ((-1, 1), ZERO), (ZERO, ZERO), ((1, 1), ZERO)
# Plate 0 has the deep cells 1 and 2, plate 1 the deep cells 2, 3 and 4.
JOB = Job(6, 1, [
    Plate([(0, 0), (1, 0), (2, 0), (3, 0)], False, (1, 0)),
    Plate([(1, 0), (2, 0), (3, 0), (4, 0), (5, 0)], True, (1, 0)),
])


class TestCheckRegion(unittest.TestCase):
    def test_ascending_unlike_tuples(self):
        told = [[2, 0], (-20, 20), [2, 0], (0, 3), (0, -3)]
        found = leaves_alone(self, check_region, told)
        self.assertEqual(found, ((-20, 20), (0, -3), (0, 3), (2, 0)))
        all_tuples(self, found)
        told[0][0] = 5
        self.assertEqual(found[-1], (2, 0))
        self.assertEqual(check_region(()), ())
        self.assertEqual(check_region([(1, 1)] * 48), ((1, 1),))

    def test_errors(self):
        bad_regions(self, lambda job, region: check_region(region))


class TestNeverBare(unittest.TestCase):
    def test_deep(self):
        found = leaves_alone(self, never_bare, JOB, [[4, 0], (1, 0), [2, 0], (4, 0), (3, 0)])
        self.assertIsInstance(found, Deep)
        self.assertEqual(found.rows, (((1, 0), 0), ((2, 0), 0), ((3, 0), 1), ((4, 0), 1)))
        all_tuples(self, found.rows)
        self.assertEqual(never_bare(JOB, []), Deep(()))

    def test_bare(self):
        found = never_bare(JOB, [(5, 0), [0, 0], (2, 0)])
        self.assertIsInstance(found, Bare)
        self.assertEqual((found.cell, found.slips), ((0, 0), (RIGHT, STILL)))
        all_tuples(self, (found.cell, found.slips))
        self.assertEqual(never_bare(JOB, [(5, 0), (2, 0)]), Bare((5, 0), (LEFT, LEFT)))
        self.assertEqual(never_bare(JOB, [(20, 20)]), Bare((20, 20), (LEFT, LEFT)))

    def test_all_whole_slips(self):
        draws = Draws(111)
        for job in drawn_jobs(112, 60):
            region = drawn_region(draws, job, 4)
            bare = {}
            for slips in whole_slips(job):
                for cell in region:
                    if plain_showing(job, slips, middle(cell)) == ():
                        bare.setdefault(cell, slips)
            found = never_bare(job, region)
            self.assertEqual(bare_cells(job, region), tuple(sorted(bare)))
            if bare:
                cell = min(bare)
                self.assertEqual(found, Bare(cell, bare[cell]))
                self.assertIsNone(bare_fault(job, region, found))
            else:
                self.assertEqual([row[0] for row in found.rows], sorted(set(region)))
                for cell, plate in found.rows:
                    self.assertIn(cell, job.plates[plate].deep)
                    for lower in range(plate):
                        self.assertNotIn(cell, job.plates[lower].deep)
                self.assertIsNone(deep_fault(job, region, found))

    def test_bare_cells(self):
        found = leaves_alone(self, bare_cells, JOB, [[5, 0], (1, 0), (0, 0), (5, 0)])
        self.assertEqual(found, ((0, 0), (5, 0)))
        all_tuples(self, found)
        self.assertEqual(bare_cells(JOB, ()), ())

    def test_errors(self):
        bad_regions(self, never_bare)
        bad_regions(self, bare_cells)


class TestDeepFault(unittest.TestCase):
    REGION = [[2, 0], (1, 0), (3, 0)]

    def test_right(self):
        for plate in (0, 1):
            rows = (((1, 0), 0), ((2, 0), plate), ((3, 0), 1))
            self.assertIsNone(leaves_alone(self, deep_fault, JOB, self.REGION, Deep(rows)))
        self.assertIsNone(deep_fault(JOB, [], Deep(())))

    def test_cells(self):
        good = [((1, 0), 0), ((2, 0), 0), ((3, 0), 1)]
        for rows in ((), good[:2], good[1:], [*good, ((4, 0), 1)], [good[1], good[0], good[2]],
                     [good[0], good[0], good[2]], [((True, 0), 0), *good[1:]], [((1, False), 0), *good[1:]],
                     [good[0], good[1], ((5, 0), 9)], [good[0], good[1], (None, 1)]):
            self.assertEqual(deep_fault(JOB, self.REGION, Deep(tuple(rows))), (0, "cells"))

    def test_plate(self):
        for plate in (2, -1, True, False, None, "0", (0,)):
            rows = (((1, 0), 0), ((2, 0), plate), ((3, 0), None))
            self.assertEqual(deep_fault(JOB, self.REGION, Deep(rows)), (1, "plate"))

    def test_deep(self):
        self.assertEqual(deep_fault(JOB, self.REGION, Deep((((1, 0), 1), ((2, 0), None), ((3, 0), 1)))), (0, "deep"))
        self.assertEqual(deep_fault(JOB, self.REGION, Deep((((1, 0), 0), ((2, 0), 0), ((3, 0), 0)))), (2, "deep"))
        self.assertEqual(deep_fault(JOB, [(0, 0)], Deep((((0, 0), 0),))), (0, "deep"))

    def test_errors(self):
        bad_regions(self, deep_fault, None)


class TestBareFault(unittest.TestCase):
    REGION = [(0, 0), [5, 0], (2, 0)]

    def test_right(self):
        for bare in (Bare((0, 0), (RIGHT, STILL)), Bare((0, 0), (RIGHT, RIGHT)), Bare((5, 0), (STILL, LEFT)),
                     Bare((5, 0), (RIGHT, LEFT))):
            self.assertIsNone(leaves_alone(self, bare_fault, JOB, self.REGION, bare))

    def test_cell(self):
        for cell in ((1, 0), (20, 20), (False, 0), (0, False), None, 0, (21, 0), (0, 0, 0)):
            self.assertEqual(bare_fault(JOB, self.REGION, Bare(cell, None)), "cell")
        self.assertEqual(bare_fault(JOB, [], Bare((0, 0), (RIGHT, RIGHT))), "cell")

    def test_slips(self):
        for slips in (None, (), (RIGHT,), (RIGHT, None), (RIGHT, ((2, 1), ZERO)), (RIGHT, (ZERO, (1, 1))),
                      (RIGHT, ((1, 2), ZERO)), (((1, 2), ZERO), RIGHT), (RIGHT, ((True, 1), ZERO)), (RIGHT, (0, 0))):
            self.assertEqual(bare_fault(JOB, self.REGION, Bare((0, 0), slips)), "slips")

    def test_shown(self):
        for cell, slips in (((0, 0), (STILL, RIGHT)), ((0, 0), (RIGHT, LEFT)), ((2, 0), (LEFT, LEFT)),
                            ((5, 0), (LEFT, STILL))):
            self.assertEqual(bare_fault(JOB, self.REGION, Bare(cell, slips)), "shown")

    def test_errors(self):
        bad_regions(self, bare_fault, None)


class TestResults(unittest.TestCase):
    def test_they_keep_what_they_are_given(self):
        rows, cell, slips = [1], [2], [3]
        self.assertIs(Deep(rows).rows, rows)
        self.assertIs(Bare(cell, slips).cell, cell)
        self.assertIs(Bare(cell=cell, slips=slips).slips, slips)
        self.assertEqual(list(vars(Bare(1, 2))), ["cell", "slips"])

    def test_equality(self):
        self.assertTrue(Deep((1,)) == Deep((1,)))
        self.assertFalse(Deep((1,)) != Deep((1,)))
        self.assertTrue(Deep((1,)) != Deep((2,)))
        self.assertFalse(Deep((1,)) == Bare((1,), ()))
        self.assertTrue(Bare(1, 2) == Bare(1, 2))
        self.assertFalse(Bare(1, 2) == Bare(1, 3))
        self.assertFalse(Bare(1, 2) == Bare(3, 2))
        self.assertTrue(Bare(1, 2) != (1, 2))
        self.assertFalse(Deep((1,)) == None)  # noqa: E711


if __name__ == "__main__":
    unittest.main()
