import unittest
from fractions import Fraction
from itertools import product

from neverbare.errors import BadOn, BadPlace, BadSlips, NoPlate, OnLine
from neverbare.jobs import Job
from neverbare.plates import Plate
from neverbare.shows import (
    on_plates, plate_cell, showing_of, showings_by_code, shown_at, whole_alike,
)
from neverbare.slips import finer_slips, is_whole_slips, mirrored_slips, turned_slips
from tests.helping import (
    ODD_THINGS, Draws, all_tuples, as_ratio, drawn_jobs, drawn_slips, leaves_alone, middle, plain_on,
    plain_showing, raises,
)

ZERO = (0, 1)
HALF = (1, 2)
STILL = (ZERO, ZERO)
JOB = Job(3, 2, [
    Plate([(0, 0), (1, 0)], False, (1, 0)),
    Plate([(1, 0), (1, 1)], True, (1, 1)),
    Plate([], False, (0, 1)),
])
SLIPS = ((HALF, ZERO), ((-1, 3), (1, 3)), (ZERO, (1, 4)))


def drawn_places(draws, many):
    """Places on no line of slips whose bottoms are at most 5."""
    return [
        (as_ratio(Fraction(draws.below(50) - 15, 7) + Fraction(1, 11)),
         as_ratio(Fraction(draws.below(50) - 15, 7) + Fraction(1, 13)))
        for _ in range(many)
    ]


class TestPlateCell(unittest.TestCase):
    def test_told_values(self):
        place = ((5, 4), (1, 8))
        self.assertEqual(plate_cell(JOB, SLIPS, 0, place), (0, 0))
        self.assertEqual(plate_cell(JOB, SLIPS, 1, place), (1, -1))
        self.assertEqual(plate_cell(JOB, SLIPS, 2, place), (1, -1))
        self.assertEqual(leaves_alone(self, plate_cell, JOB, [list(slip) for slip in SLIPS], 0, list(place)), (0, 0))
        self.assertEqual(plate_cell(JOB, SLIPS, 0, ((101, 1), (-1, 2))), (100, -1))

    def test_place_lies_under_the_cell(self):
        draws = Draws(51)
        for job in drawn_jobs(52, 20):
            slips = drawn_slips(draws, job)
            for place in drawn_places(draws, 5):
                for plate in range(len(job)):
                    i, j = plate_cell(job, slips, plate, place)
                    self.assertTrue(i < Fraction(*place[0]) - Fraction(*slips[plate][0]) < i + 1)
                    self.assertTrue(j < Fraction(*place[1]) - Fraction(*slips[plate][1]) < j + 1)

    def test_errors_in_order(self):
        raises(self, BadSlips, {"index": 0, "what": "many"}, plate_cell, JOB, [], None, None)
        raises(self, NoPlate, {"plate": 3}, plate_cell, JOB, SLIPS, 3, None)
        for thing in (-1, *ODD_THINGS):
            raises(self, NoPlate, {"plate": thing}, plate_cell, JOB, SLIPS, thing, (ZERO, ZERO))
        raises(self, BadPlace, {}, plate_cell, JOB, SLIPS, 0, (0, 0))

    def test_only_its_own_lines_matter(self):
        raises(self, OnLine, {"plate": 0}, plate_cell, JOB, SLIPS, 0, (HALF, (1, 8)))
        raises(self, OnLine, {"plate": 0}, plate_cell, JOB, SLIPS, 0, ((1, 8), (7, 1)))
        raises(self, OnLine, {"plate": 2}, plate_cell, JOB, SLIPS, 2, ((1, 8), (-3, 4)))
        self.assertEqual(plate_cell(JOB, SLIPS, 1, (HALF, (1, 8))), (0, -1))


class TestOnPlates(unittest.TestCase):
    def test_told_values(self):
        self.assertEqual(on_plates(JOB, SLIPS, ((5, 4), (5, 8))), (0, 1))
        self.assertEqual(on_plates(JOB, SLIPS, ((5, 4), (1, 8))), (0,))
        self.assertEqual(on_plates(JOB, SLIPS, ((-5, 4), (1, 8))), ())

    def test_as_told(self):
        draws = Draws(53)
        for job in drawn_jobs(54, 40):
            slips = drawn_slips(draws, job)
            for place in drawn_places(draws, 8):
                wanted = [number for number, plate in enumerate(job) if plain_on(plate, slips[number], place)]
                self.assertEqual(on_plates(job, slips, place), tuple(wanted))

    def test_errors_in_order(self):
        for call in (on_plates, shown_at, whole_alike):
            raises(self, BadSlips, {"index": 1, "what": "bound"}, call,
                   JOB, [STILL, ((2, 1), ZERO), STILL], None)
            raises(self, BadPlace, {}, call, JOB, SLIPS, None)
            raises(self, BadPlace, {}, call, JOB, SLIPS, [HALF, 1])
            raises(self, OnLine, {"plate": 0}, call, JOB, SLIPS, (HALF, HALF))
            raises(self, OnLine, {"plate": 0}, call, JOB, SLIPS, (HALF, (1, 3)))
            raises(self, OnLine, {"plate": 1}, call, JOB, SLIPS, ((2, 3), (1, 4)))
            raises(self, OnLine, {"plate": 1}, call, JOB, SLIPS, ((1, 5), (4, 3)))
            raises(self, OnLine, {"plate": 2}, call, JOB, SLIPS, ((17, 1), (1, 8)))
            raises(self, OnLine, {"plate": 2}, call, JOB, SLIPS, ((1, 8), (-3, 4)))


class TestShowing(unittest.TestCase):
    def test_all_choices(self):
        for hiding in product((False, True), repeat=3):
            job = Job(1, 1, [Plate([], one, (1, 1)) for one in hiding])
            for many in range(8):
                on = tuple([plate for plate in range(3) if many >> plate & 1])
                wanted = tuple([p for p in on if not any(q > p and hiding[q] for q in on)])
                found = leaves_alone(self, showing_of, job, list(on))
                self.assertEqual(found, wanted)
                self.assertIsInstance(found, tuple)
                self.assertEqual(showing_of(job, on), wanted)
                self.assertEqual(showings_by_code(job)[many], wanted)
            self.assertEqual(len(showings_by_code(job)), 8)

    def test_bad_on(self):
        for thing in ((1, 0), (0, 0), (3,), (-1,), (True,), (0, True), ("0",), (0, 1, 2, 3), (0, None), {0},
                      {0: 1}, (0.0,), ((0,),), *ODD_THINGS):
            raises(self, BadOn, {}, showing_of, JOB, thing)
        raises(self, BadOn, {}, showing_of, Job(1, 1, [Plate([])]), (1,))

    def test_shown_at(self):
        self.assertEqual(shown_at(JOB, SLIPS, ((5, 4), (5, 8))), (1,))
        draws = Draws(55)
        for job in drawn_jobs(56, 40):
            slips = drawn_slips(draws, job)
            for place in drawn_places(draws, 8):
                found = leaves_alone(self, shown_at, job, [list(slip) for slip in slips], list(place))
                self.assertEqual(found, plain_showing(job, slips, place))
                self.assertEqual(found, showing_of(job, on_plates(job, slips, place)))

    def test_bare_beyond_all_ink(self):
        self.assertEqual(shown_at(JOB, SLIPS, ((1002, 7), (-1003, 7))), ())

    def test_jobs_seen_otherwise_show_the_same(self):
        draws = Draws(57)
        for job in drawn_jobs(58, 30):
            slips = drawn_slips(draws, job)
            for place in drawn_places(draws, 4):
                x, y = Fraction(*place[0]), Fraction(*place[1])
                shown = shown_at(job, slips, place)
                self.assertEqual(shown, shown_at(
                    job.mirrored(0), mirrored_slips(slips, 0), (as_ratio(job.width - x), place[1])))
                self.assertEqual(shown, shown_at(
                    job.mirrored(1), mirrored_slips(slips, 1), (place[0], as_ratio(job.height - y))))
                self.assertEqual(shown, shown_at(
                    job.turned(), turned_slips(slips), (as_ratio(job.height - y), place[0])))
                self.assertEqual(shown, shown_at(
                    job.finer(2), finer_slips(slips, 2), (as_ratio(2 * x), as_ratio(2 * y))))


class TestWholeAlike(unittest.TestCase):
    def test_told_values(self):
        self.assertEqual(whole_alike(JOB, SLIPS, ((5, 4), (1, 8))), (
            (1, 0), (((1, 1), ZERO), (ZERO, (1, 1)), (ZERO, (1, 1)))))

    def test_same_cells_over_the_middle(self):
        draws = Draws(59)
        for job in drawn_jobs(60, 40):
            slips = drawn_slips(draws, job)
            for place in drawn_places(draws, 6):
                cell, whole = whole_alike(job, slips, place)
                all_tuples(self, (cell, whole))
                self.assertEqual(cell, (Fraction(*place[0]) // 1, Fraction(*place[1]) // 1))
                self.assertTrue(is_whole_slips(job, whole))
                for plate in range(len(job)):
                    self.assertEqual(plate_cell(job, slips, plate, place),
                                     plate_cell(job, whole, plate, middle(cell)))
                self.assertEqual(shown_at(job, slips, place), shown_at(job, whole, middle(cell)))

    def test_a_rim_between_sheet_cells_is_let(self):
        job = Job(2, 2, [Plate([(0, 0)], False, (1, 1))])
        self.assertEqual(whole_alike(job, [[HALF, (1, 3)]], [(1, 1), (1, 1)]), ((1, 1), (((1, 1), (1, 1)),)))
        raises(self, OnLine, {"plate": 0}, whole_alike, job, [(ZERO, (1, 3))], ((1, 1), (1, 1)))


if __name__ == "__main__":
    unittest.main()
