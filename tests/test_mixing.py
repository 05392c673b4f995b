import unittest

from neverbare.jobs import Job
from neverbare.mixing import Mixed, Unmixed, never_mixed, unmixed_fault
from neverbare.plates import Plate
from tests.helping import (
    Draws, all_tuples, bad_regions, drawn_jobs, drawn_region, leaves_alone, middle, plain_showing,
    whole_slips,
)

ZERO = (0, 1)
LEFT, STILL, RIGHT = ((-1, 1), ZERO), (ZERO, ZERO), ((1, 1), ZERO)


def row(*numbers):
    return [(number, 0) for number in numbers]


# Plate 1 is hiding and deep at 2 and 3; plate 2 is clear.
JOB = Job(8, 1, [
    Plate(row(0, 1, 2, 3, 7), False, (0, 0)),
    Plate(row(1, 2, 3, 4), True, (1, 0)),
    Plate(row(2, 6), False, (0, 0)),
])
HIDES = (0, 1, "hides", 1)


class TestNeverMixed(unittest.TestCase):
    def test_reasons(self):
        found = leaves_alone(self, never_mixed, JOB, [[7, 0], (1, 0), [6, 0], (4, 0)])
        self.assertIsInstance(found, Unmixed)
        self.assertEqual(found.rows, (
            ((1, 0), (HIDES, (0, 2, "off", 2), (1, 2, "off", 2))),
            ((4, 0), (HIDES, (0, 2, "off", 0), (1, 2, "off", 2))),
            ((6, 0), (HIDES, (0, 2, "off", 0), (1, 2, "off", 1))),
            ((7, 0), (HIDES, (0, 2, "off", 2), (1, 2, "off", 1))),
        ))
        all_tuples(self, found.rows)

    def test_under(self):
        job = Job(3, 1, [Plate(row(1), False, (0, 0)), Plate(row(0, 1, 2), True, (1, 0)), Plate([], True, (0, 0))])
        self.assertEqual(never_mixed(job, [(1, 0)]), Unmixed((
            ((1, 0), (HIDES, (0, 2, "hides", 2), (1, 2, "hides", 2))),)))
        clear = Job(3, 1, [Plate(row(1), False, (0, 0)), Plate(row(1), False, (0, 0)), Plate(row(0, 1, 2), True, (1, 0))])
        self.assertEqual(never_mixed(clear, [(1, 0)]), Unmixed((
            ((1, 0), ((0, 1, "under", 2), (0, 2, "hides", 2), (1, 2, "hides", 2))),)))
        between = Job(3, 1, [Plate(row(1), False, (0, 0)), Plate(row(0, 1, 2), True, (1, 0)),
                             Plate(row(1), False, (0, 0))])
        self.assertEqual(never_mixed(between, [(1, 0)]), Mixed((1, 0), (STILL, LEFT, STILL)))
        self.assertIsNone(unmixed_fault(between, [], never_mixed(between, [])))

    def test_the_least_hiding_plate_above(self):
        job = Job(3, 1, [Plate(row(1), False, (0, 0)), Plate(row(1), True, (0, 0)), Plate(row(1), True, (0, 0))])
        self.assertEqual(never_mixed(job, [(1, 0)]).rows[0][1][0], HIDES)
        under = Job(3, 1, [Plate(row(1), True, (0, 0)), Plate(row(1), True, (0, 0)), Plate(row(2), False, (0, 0))])
        self.assertEqual(never_mixed(under, [(1, 0)]).rows[0][1],
                         (HIDES, (0, 2, "off", 2), (1, 2, "off", 2)))
        both = Job(3, 1, [Plate(row(1), False, (0, 0)), Plate(row(1), True, (0, 0)), Plate(row(1), False, (0, 0))])
        self.assertEqual(never_mixed(both, [(1, 0)]), Mixed((1, 0), (STILL, STILL, STILL)))

    def test_mixed(self):
        found = never_mixed(JOB, [(3, 0), [2, 0], (1, 0)])
        self.assertIsInstance(found, Mixed)
        self.assertEqual((found.cell, found.slips), ((2, 0), (STILL, LEFT, STILL)))
        all_tuples(self, (found.cell, found.slips))

    def test_one_plate_and_no_cell(self):
        one = Job(2, 1, [Plate(row(0, 1), False, (1, 0))])
        self.assertEqual(never_mixed(one, [(1, 0), (0, 0)]), Unmixed((((0, 0), ()), ((1, 0), ()))))
        self.assertIsNone(unmixed_fault(one, [(0, 0)], Unmixed((((0, 0), ()),))))
        self.assertEqual(never_mixed(JOB, ()), Unmixed(()))

    def test_all_whole_slips(self):
        draws = Draws(121)
        for job in drawn_jobs(122, 80):
            region = drawn_region(draws, job, 4)
            mixed = {}
            for slips in whole_slips(job):
                for cell in region:
                    if len(plain_showing(job, slips, middle(cell))) > 1:
                        mixed.setdefault(cell, slips)
            found = never_mixed(job, region)
            if mixed:
                self.assertEqual(found, Mixed(min(mixed), mixed[min(mixed)]))
            else:
                self.assertEqual([one[0] for one in found.rows], sorted(set(region)))
                self.assertIsNone(unmixed_fault(job, region, found))

    def test_errors(self):
        bad_regions(self, never_mixed)
        bad_regions(self, unmixed_fault, None)


class TestUnmixedFault(unittest.TestCase):
    CELL = (1, 0)
    GOOD = (HIDES, (0, 2, "off", 2), (1, 2, "off", 2))

    def judge(self, *reasons):
        return unmixed_fault(JOB, [[1, 0]], Unmixed(((self.CELL, reasons),)))

    def test_right(self):
        self.assertIsNone(self.judge(*self.GOOD))
        # Each of these is as true as the first one that applies.
        self.assertIsNone(unmixed_fault(JOB, [(4, 0)], Unmixed((
            ((4, 0), (HIDES, (0, 2, "off", 2), (1, 2, "off", 2))),))))
        self.assertIsNone(unmixed_fault(JOB, [(4, 0)], Unmixed((
            ((4, 0), ((0, 1, "off", 0), (0, 2, "off", 0), (1, 2, "off", 2))),))))
        self.assertIsNone(unmixed_fault(JOB, [(3, 0)], Unmixed((
            ((3, 0), ((0, 1, "under", 1), (0, 2, "under", 1), (1, 2, "off", 2))),))))

    def test_cells(self):
        good = ((1, 0), self.GOOD)
        for rows in ((), (good, good), (((2, 0), self.GOOD),), (((True, 0), self.GOOD),), (((1, False), ()),)):
            self.assertEqual(unmixed_fault(JOB, [(1, 0)], Unmixed(rows)), (0, "cells"))
        self.assertEqual(unmixed_fault(JOB, [(1, 0), (4, 0)], Unmixed((((4, 0), ()), ((1, 0), ())))), (0, "cells"))

    def test_pairs(self):
        one, two, three = self.GOOD
        for reasons in ((), (one, two), (one, three, two), (one, one, two, three), (one, two, three, three),
                        ((1, 0, "hides", 1), two, three), ((False, 1, "hides", 1), two, three),
                        ((0, True, "hides", 1), two, three), (one, two, (2, 2, "off", 2)),
                        (one, two, (1, 2.0, "off", 2)), (one, ("0", 2, "off", 2), three)):
            self.assertEqual(self.judge(*reasons), (0, "pairs"))
        self.assertEqual(unmixed_fault(JOB, [(1, 0), (4, 0)], Unmixed((
            ((1, 0), (one, two, (1, 2, "off", 1))), ((4, 0), ())))), (0, "reason"))
        self.assertEqual(unmixed_fault(JOB, [(1, 0), (4, 0)], Unmixed((((1, 0), self.GOOD), ((4, 0), ())))),
                         (1, "pairs"))

    def test_no_reasons_at_all(self):
        for reasons in (None, 0, {}):
            self.assertEqual(unmixed_fault(JOB, [(1, 0)], Unmixed((((1, 0), reasons),))), (0, "pairs"))

    def test_reason(self):
        one, two, three = self.GOOD
        for bad in ((0, 1), (0, 1, "hides"), (0, 1, "hides", 1, 1)):
            self.assertEqual(self.judge(bad, two, three), (0, "reason"), bad)
        for word in ("beneath", "", None, "Under"):
            self.assertEqual(unmixed_fault(JOB, [(3, 0)], Unmixed((
                ((3, 0), ((0, 1, word, 1), (0, 2, "under", 1), (1, 2, "off", 2))),))), (0, "reason"))
        for bad in ((0, 1, "hides", 0), (0, 1, "hides", 2), (0, 1, "hides", True), (0, 1, "off", 0), (0, 1, "off", 1),
                    (0, 1, "off", 2), (0, 1, "under", 1), (0, 1, "under", 0), (0, 1, "under", 2), (0, 1, "hidden", 1),
                    (0, 1, None, 1), (0, 1, "hides", 3), (0, 1, "hides", -1), (0, 1, "hides", None),
                    (0, 1, "hides", "1"), (0, 1, "", 1)):
            self.assertEqual(self.judge(bad, two, three), (0, "reason"), bad)
        for bad in ((0, 2, "hides", 2), (0, 2, "off", 0), (0, 2, "off", 1), (0, 2, "under", 1)):
            self.assertEqual(self.judge(one, bad, three), (0, "reason"), bad)
        for bad in ((1, 2, "off", 1), (1, 2, "off", 0), (1, 2, "under", 2), (1, 2, "under", 1), (1, 2, "hides", 1)):
            self.assertEqual(self.judge(one, two, bad), (0, "reason"), bad)

    def test_under_names_a_hiding_plate_above(self):
        for bad in ((1, 2, "under", 1), (1, 2, "under", 0), (1, 2, "under", 2)):
            self.assertEqual(unmixed_fault(JOB, [(3, 0)], Unmixed((
                ((3, 0), (HIDES, (0, 2, "under", 1), bad)),))), (0, "reason"))
        clear = Job(3, 1, [Plate(row(1), False, (0, 0)), Plate(row(1), False, (0, 0))])
        self.assertEqual(unmixed_fault(clear, [(1, 0)], Unmixed((((1, 0), ((0, 1, "under", 1),)),))), (0, "reason"))


class TestResults(unittest.TestCase):
    def test_they_keep_what_they_are_given(self):
        rows, cell, slips = [1], [2], [3]
        self.assertIs(Unmixed(rows).rows, rows)
        self.assertIs(Mixed(cell, slips).cell, cell)
        self.assertIs(Mixed(cell=cell, slips=slips).slips, slips)

    def test_equality(self):
        self.assertTrue(Unmixed((1,)) == Unmixed((1,)))
        self.assertTrue(Unmixed((1,)) != Unmixed((2,)))
        self.assertFalse(Unmixed((1,)) == Mixed((1,), ()))
        self.assertTrue(Mixed(1, 2) == Mixed(1, 2))
        self.assertFalse(Mixed(1, 2) == Mixed(1, 3))
        self.assertFalse(Mixed(1, 2) == Mixed(3, 2))
        self.assertTrue(Mixed(1, 2) != (1, 2))


if __name__ == "__main__":
    unittest.main()
