import unittest

from neverbare.errors import BadRegion, BadSlips, OnLine
from neverbare.jobs import Job
from neverbare.jointly import (
    BareAt, Covered, all_bare, all_pictures, covered_fault, picture_at, slips_for_picture,
)
from neverbare.places import showings_at
from neverbare.plates import Plate
from neverbare.regions import Bare, never_bare
from neverbare.slips import nearest_slips
from tests.helping import (
    EXAMPLE, Draws, all_tuples, bad_regions, cells_about, drawn_jobs, drawn_region, drawn_slips,
    leaves_alone, middle, plain_on, plain_showing, raises, whole_slips,
)

ZERO = (0, 1)
LEFT, STILL, RIGHT = ((-1, 1), ZERO), (ZERO, ZERO), ((1, 1), ZERO)
# Plate 1 has ink over the first or the last of the cells 0, 1 and 2 wherever it lies.
JOB = Job(3, 1, [Plate([(0, 0)], False, (1, 0)), Plate([(1, 0)], True, (1, 0))])
REGION = [(2, 0), [0, 0], (1, 0)]


def middles_bare(job, slips, cells):
    return all(plain_showing(job, slips, middle(cell)) == () for cell in cells)


class TestAllBare(unittest.TestCase):
    def test_bare_at(self):
        found = leaves_alone(self, all_bare, JOB, [[0, 0], (2, 0)])
        self.assertIsInstance(found, BareAt)
        self.assertEqual(found.slips, (LEFT, STILL))
        all_tuples(self, found.slips)
        self.assertEqual(all_bare(JOB, []), BareAt((LEFT, LEFT)))

    def test_covered(self):
        found = leaves_alone(self, all_bare, JOB, REGION)
        self.assertIsInstance(found, Covered)
        self.assertEqual(found.plate, 1)
        self.assertEqual(found.rows, ((LEFT, (0, 0)), (STILL, (1, 0)), (RIGHT, (2, 0))))
        all_tuples(self, found.rows)

    def test_the_least_plate_and_the_first_cell(self):
        two = Job(3, 1, [Plate([(0, 0), (1, 0)], False, (1, 0)), Plate([(1, 0)], True, (1, 0))])
        self.assertEqual(all_bare(two, REGION), Covered(0, (
            (LEFT, (0, 0)), (STILL, (0, 0)), (RIGHT, (1, 0)))))

    def test_each_cell_bare_but_never_all(self):
        for cell in REGION:
            self.assertIsInstance(never_bare(JOB, [cell]), Bare)
        self.assertIsInstance(all_bare(JOB, REGION), Covered)

    def test_all_whole_slips(self):
        draws = Draws(131)
        for job in drawn_jobs(132, 80):
            region = drawn_region(draws, job, 5)
            wanted = [slips for slips in whole_slips(job) if middles_bare(job, slips, region)]
            found = all_bare(job, region)
            if wanted:
                self.assertEqual(found, BareAt(wanted[0]))
                continue
            self.assertIsNone(covered_fault(job, region, found))
            own = [sorted({slips[plate] for slips in whole_slips(job)}) for plate in range(len(job))]
            plates = [
                plate for plate in range(len(job))
                if all(any(plain_on(job.plates[plate], slip, middle(cell)) for cell in region)
                       for slip in own[plate])
            ]
            self.assertEqual(found.plate, plates[0])
            self.assertEqual([row[0] for row in found.rows], own[found.plate])
            for slip, cell in found.rows:
                inked = [one for one in sorted(region) if plain_on(job.plates[found.plate], slip, middle(one))]
                self.assertEqual(cell, inked[0])

    def test_covered_holds_for_slips_that_are_not_whole(self):
        draws = Draws(133)
        for job in drawn_jobs(134, 60):
            region = drawn_region(draws, job, 5)
            slips = drawn_slips(draws, job)
            on_line = any(plain_on(plate, slip, middle(cell)) is None
                          for cell in region for plate, slip in zip(job.plates, slips))
            if isinstance(all_bare(job, region), Covered) and not on_line:
                self.assertFalse(middles_bare(job, slips, region))

    def test_errors(self):
        bad_regions(self, all_bare)


class TestCoveredFault(unittest.TestCase):
    ROWS = ((LEFT, (0, 0)), (STILL, (1, 0)), (RIGHT, (2, 0)))

    def judge(self, plate, rows):
        return covered_fault(JOB, REGION, Covered(plate, rows))

    def test_right(self):
        self.assertIsNone(leaves_alone(self, covered_fault, JOB, REGION, Covered(1, self.ROWS)))
        wide = Job(3, 1, [Plate([(0, 0), (1, 0)], False, (0, 0))])
        for cell in ((0, 0), (1, 0)):
            self.assertIsNone(covered_fault(wide, REGION, Covered(0, ((STILL, cell),))))

    def test_plate(self):
        for plate in (2, -1, True, None, "1", (1,)):
            self.assertEqual(self.judge(plate, ()), "plate")

    def test_slips(self):
        one, two, three = self.ROWS
        for rows in ((), (one, two), (one, three, two), (one, one, two, three), (one, two, (STILL, (2, 0))),
                     (one, two, (((2, 1), ZERO), (2, 0))), (one, (((1, 2), ZERO), (1, 0)), three),
                     (one, two, (((True, 1), ZERO), (2, 0))), (one, (None, None), three),
                     (one, two, ((1, 0), (2, 0))), (one, two, three, three)):
            self.assertEqual(self.judge(1, rows), "slips")

    def test_cell(self):
        one, two, three = self.ROWS
        for cell in ((3, 0), (1, 1), (True, 0), (1, False), None, 1, (1,)):
            self.assertEqual(self.judge(1, (one, (STILL, cell), three)), "cell")
        self.assertEqual(self.judge(1, ((LEFT, (2, 0)), two, (RIGHT, (3, 0)))), "cell")
        self.assertEqual(covered_fault(JOB, [], Covered(1, self.ROWS)), "cell")

    def test_ink(self):
        one, two, three = self.ROWS
        for rows in ((one, two, (RIGHT, (1, 0))), ((LEFT, (2, 0)), two, three), (one, (STILL, (0, 0)), three)):
            self.assertEqual(self.judge(1, rows), "ink")
        self.assertEqual(self.judge(0, self.ROWS), "ink")

    def test_errors(self):
        bad_regions(self, covered_fault, None)


class TestPictureAt(unittest.TestCase):
    def test_told_values(self):
        found = leaves_alone(self, picture_at, JOB, [[(1, 3), ZERO], [(1, 3), ZERO]], REGION)
        self.assertEqual(found, ((0,), (1,), ()))
        all_tuples(self, found)
        self.assertEqual(picture_at(JOB, (LEFT, LEFT), []), ())
        self.assertEqual(picture_at(JOB, (RIGHT, STILL), ((1, 0), (0, 0), (1, 0))), ((), (1,)))

    def test_as_the_nearest_whole_slips(self):
        draws = Draws(135)
        for job in drawn_jobs(136, 60):
            region = drawn_region(draws, job, 5)
            slips = drawn_slips(draws, job)
            cells = sorted(set(region))
            lines = [plate for cell in cells for plate, slip in enumerate(slips)
                     if plain_on(job.plates[plate], slip, middle(cell)) is None]
            if lines:
                raises(self, OnLine, {"plate": lines[0]}, picture_at, job, slips, region)
                continue
            wanted = tuple([plain_showing(job, slips, middle(cell)) for cell in cells])
            self.assertEqual(picture_at(job, slips, region), wanted)
            self.assertEqual(picture_at(job, nearest_slips(job, slips), region), wanted)
            self.assertIn(wanted, [row[0] for row in all_pictures(job, region)])

    def test_errors_in_order(self):
        half = ((1, 2), ZERO)
        raises(self, BadSlips, {"index": 0, "what": "many"}, picture_at, JOB, None, None)
        raises(self, BadSlips, {"index": 1, "what": "bound"}, picture_at, JOB, (half, ((3, 2), ZERO)), None)
        raises(self, BadRegion, {"index": 1}, picture_at, JOB, (half, half), [(0, 0), None])
        raises(self, BadRegion, {"index": 0}, picture_at, JOB, (half, half), None)
        raises(self, OnLine, {"plate": 1}, picture_at, JOB, (STILL, half), [(9, 9)])
        raises(self, OnLine, {"plate": 0}, picture_at, JOB, (half, half), [(9, 9)])
        self.assertEqual(picture_at(JOB, (half, half), []), ())


class TestAllPictures(unittest.TestCase):
    def test_told_values(self):
        found = leaves_alone(self, all_pictures, JOB, [[1, 0], (0, 0)])
        self.assertEqual(found, (
            (((), ()), (LEFT, RIGHT)),
            (((), (0,)), (RIGHT, RIGHT)),
            (((), (1,)), (LEFT, STILL)),
            (((0,), ()), (STILL, RIGHT)),
            (((0,), (1,)), (STILL, STILL)),
            (((1,), ()), (LEFT, LEFT)),
            (((1,), (0,)), (RIGHT, LEFT)),
        ))
        all_tuples(self, found)
        self.assertEqual(all_pictures(JOB, []), (((), (LEFT, LEFT)),))

    def test_all_whole_slips(self):
        draws = Draws(137)
        for job in drawn_jobs(138, 40):
            region = drawn_region(draws, job, 5)
            wanted = {}
            for slips in whole_slips(job):
                picture = tuple([plain_showing(job, slips, middle(cell)) for cell in sorted(set(region))])
                wanted.setdefault(picture, slips)
            found = all_pictures(job, region)
            self.assertEqual(found, tuple(sorted(wanted.items())))
            for picture, slips in found:
                self.assertEqual(slips_for_picture(job, region, picture), slips)

    def test_one_cell(self):
        for job in [EXAMPLE, *drawn_jobs(139, 10)]:
            for cell in cells_about(job):
                wanted = tuple([((showing,), slips) for showing, slips in showings_at(job, cell)])
                self.assertEqual(all_pictures(job, [cell]), wanted)

    def test_errors(self):
        bad_regions(self, all_pictures)
        bad_regions(self, slips_for_picture, ())


class TestSlipsForPicture(unittest.TestCase):
    def test_told_values(self):
        region = [[1, 0], (0, 0), (0, 0)]
        self.assertEqual(leaves_alone(self, slips_for_picture, JOB, region, ((0,), (1,))), (STILL, STILL))
        self.assertEqual(slips_for_picture(JOB, [], ()), (LEFT, LEFT))

    def test_none(self):
        region = [(1, 0), (0, 0)]
        for picture in ((), ((0,),), ((0,), (1,), ()), ((1,), (1,)), ((0, 1), ()), ((1, 0), ()), ((False,), (1,)),
                        ((0,), (True,)), ((2,), ()), ((-1,), ())):
            self.assertIsNone(slips_for_picture(JOB, region, picture))
        self.assertIsNone(slips_for_picture(JOB, [], ((),)))
        for thing in (None, 0, "", {}, (None, None), (0, 1)):
            self.assertIsNone(slips_for_picture(JOB, region, thing))


class TestResults(unittest.TestCase):
    def test_they_keep_what_they_are_given(self):
        slips, rows = [1], [2]
        self.assertIs(BareAt(slips).slips, slips)
        self.assertIs(Covered(0, rows).rows, rows)
        self.assertEqual(vars(Covered(plate=3, rows=())), {"plate": 3, "rows": ()})

    def test_equality(self):
        self.assertTrue(BareAt((1,)) == BareAt((1,)))
        self.assertTrue(BareAt((1,)) != BareAt((2,)))
        self.assertFalse(BareAt(()) == Covered(0, ()))
        self.assertTrue(Covered(0, ()) == Covered(0, ()))
        self.assertFalse(Covered(0, ()) == Covered(1, ()))
        self.assertFalse(Covered(0, ()) == Covered(0, (1,)))
        self.assertTrue(Covered(0, ()) != (0, ()))


if __name__ == "__main__":
    unittest.main()
