import unittest
from fractions import Fraction

from neverbare.errors import BadKind, BadSheetCell, NoPlate
from neverbare.jobs import Job
from neverbare.kinds import is_of_kind
from neverbare.places import (
    can_be_off, can_be_on, can_show, check_sheet_cell, showings_at, slips_for, surely_shows,
)
from neverbare.plates import Plate
from neverbare.shows import shown_at
from tests.helping import (
    EXAMPLE, ODD_THINGS, Draws, all_tuples, as_ratio, cells_about, drawn_jobs, drawn_slips, leaves_alone,
    middle, plain_on, plain_showing, raises, whole_slips,
)

ZERO = (0, 1)
NO_CELLS = ((21, 0), (0, -21), (0,), (0, 0, 0), (True, 0), (0, False), (0.0, 0), "00", *ODD_THINGS)


def all_kinds(job):
    found = ["bare", "mixed"]
    for plate in range(len(job)):
        found.extend([("alone", plate), ("shows", plate)])
    return found


def looks_of(job, cell):
    """All showings of the cell's middle with the least whole slips for each, reckoned apart."""
    found = {}
    for slips in whole_slips(job):
        found.setdefault(plain_showing(job, slips, middle(cell)), slips)
    return found


class TestSheetCell(unittest.TestCase):
    def test_cells(self):
        found = leaves_alone(self, check_sheet_cell, [3, -7])
        self.assertEqual(found, (3, -7))
        all_tuples(self, found)
        self.assertEqual(check_sheet_cell((20, -20)), (20, -20))

    def test_errors(self):
        for thing in NO_CELLS:
            raises(self, BadSheetCell, {}, check_sheet_cell, thing)


class TestOnAndOff(unittest.TestCase):
    def test_told_values(self):
        self.assertIs(can_be_on(EXAMPLE, 0, (1, 0)), True)
        self.assertIs(can_be_on(EXAMPLE, 0, [0, 0]), False)
        self.assertIs(can_be_on(EXAMPLE, 0, (3, 1)), False)
        self.assertIs(can_be_off(EXAMPLE, 1, (3, 0)), False)
        self.assertIs(can_be_off(EXAMPLE, 1, [5, 0]), False)
        self.assertIs(can_be_off(EXAMPLE, 1, (2, 0)), True)
        self.assertIs(can_be_off(EXAMPLE, 1, (20, 20)), True)

    def test_all_whole_slips(self):
        for job in drawn_jobs(101, 25):
            for cell in cells_about(job):
                for number, plate in enumerate(job):
                    looks = {plain_on(plate, slips[number], middle(cell)) for slips in whole_slips(job)}
                    self.assertIs(can_be_on(job, number, cell), True in looks)
                    self.assertIs(can_be_off(job, number, cell), False in looks)
                    self.assertIs(can_be_on(job, number, cell), cell in plate.grown)
                    self.assertIs(can_be_off(job, number, cell), cell not in plate.deep)

    def test_errors_in_order(self):
        for call in (can_be_on, can_be_off):
            for thing in (2, -1, *ODD_THINGS):
                raises(self, NoPlate, {"plate": thing}, call, EXAMPLE, thing, None)
            for thing in NO_CELLS:
                raises(self, BadSheetCell, {}, call, EXAMPLE, 0, thing)


class TestShowingsAt(unittest.TestCase):
    def test_told_values(self):
        left, still, right = ((-1, 1), ZERO), (ZERO, ZERO), ((1, 1), ZERO)
        self.assertEqual(showings_at(EXAMPLE, [1, 0]), (
            ((), (still, still)), ((0,), (left, still)), ((1,), (left, left))))
        self.assertEqual(showings_at(EXAMPLE, (2, 0)), (
            ((), (right, right)), ((0,), (left, right)), ((1,), (left, left))))
        self.assertEqual(showings_at(EXAMPLE, (4, 0)), (((1,), (left, left)),))
        self.assertEqual(showings_at(EXAMPLE, (12, 0)), (((), (left, left)),))

    def test_all_whole_slips(self):
        for job in drawn_jobs(102, 20):
            for cell in cells_about(job):
                wanted = looks_of(job, cell)
                found = leaves_alone(self, showings_at, job, list(cell))
                self.assertEqual(found, tuple(sorted(wanted.items())))
                all_tuples(self, found)
                for showing, slips in found:
                    self.assertEqual(slips_for(job, cell, showing), slips)
                    self.assertEqual(shown_at(job, slips, middle(cell)), showing)

    def test_slips_that_are_not_whole_show_no_more(self):
        draws = Draws(103)
        for job in drawn_jobs(104, 40):
            slips = drawn_slips(draws, job)
            for cell in job.field:
                place = (as_ratio(cell[0] + Fraction(1 + draws.below(22), 23)),
                         as_ratio(cell[1] + Fraction(1 + draws.below(22), 23)))
                if None not in [plain_on(p, s, place) for p, s in zip(job.plates, slips)]:
                    shown = shown_at(job, slips, place)
                    self.assertIn(shown, [row[0] for row in showings_at(job, cell)])

    def test_choices_come_together(self):
        for job in drawn_jobs(105, 20):
            for cell in cells_about(job):
                looks = {tuple([plain_on(p, s, middle(cell)) for p, s in zip(job.plates, slips)])
                         for slips in whole_slips(job)}
                many = 1
                for number in range(len(job)):
                    many *= can_be_on(job, number, cell) + can_be_off(job, number, cell)
                self.assertEqual(len(looks), many)

    def test_errors(self):
        for thing in NO_CELLS:
            raises(self, BadSheetCell, {}, showings_at, EXAMPLE, thing)
            raises(self, BadSheetCell, {}, slips_for, EXAMPLE, thing, ())
            raises(self, BadSheetCell, {}, surely_shows, EXAMPLE, thing)
            raises(self, BadSheetCell, {}, can_show, EXAMPLE, thing, None)


class TestSlipsFor(unittest.TestCase):
    def test_none(self):
        for showing in ((0, 1), (1, 0), (0, 0), (2,), (-1,), (1, 1), (True,), (False,), (99,)):
            self.assertIsNone(slips_for(EXAMPLE, (2, 0), showing))
        job = Job(1, 1, [Plate([(0, 0)], False, (0, 0)), Plate([(0, 0)], False, (0, 0))])
        self.assertEqual(slips_for(job, [0, 0], (0, 1)), ((ZERO, ZERO), (ZERO, ZERO)))
        self.assertIsNone(slips_for(job, (0, 0), (1, 0)))
        self.assertIsNone(slips_for(job, (0, 0), (0, True)))
        self.assertIsNone(slips_for(job, (0, 0), (False, 1)))
        self.assertIsNone(slips_for(job, (0, 0), ()))
        for thing in (None, 0, "", {}, (None,), ((),)):
            self.assertIsNone(slips_for(job, (0, 0), thing))
            self.assertIsNone(slips_for(EXAMPLE, (2, 0), thing))


class TestSurely(unittest.TestCase):
    def test_told_values(self):
        self.assertEqual(surely_shows(EXAMPLE, (4, 0)), (1,))
        self.assertEqual(surely_shows(EXAMPLE, [12, 0]), ())
        self.assertIsNone(surely_shows(EXAMPLE, (2, 0)))

    def test_all_whole_slips(self):
        for job in drawn_jobs(106, 12):
            for cell in cells_about(job):
                looks = looks_of(job, cell)
                wanted = list(looks)[0] if len(looks) == 1 else None
                self.assertEqual(surely_shows(job, cell), wanted)


class TestCanShow(unittest.TestCase):
    def test_told_values(self):
        left, right = ((-1, 1), ZERO), ((1, 1), ZERO)
        self.assertEqual(can_show(EXAMPLE, [2, 0], "bare"), (right, right))
        self.assertEqual(can_show(EXAMPLE, (2, 0), ["shows", 0]), (left, right))
        self.assertEqual(can_show(EXAMPLE, (2, 0), ("alone", 1)), (left, left))
        self.assertIsNone(can_show(EXAMPLE, (2, 0), "mixed"))
        self.assertIsNone(can_show(EXAMPLE, (4, 0), "bare"))

    def test_all_whole_slips(self):
        for job in drawn_jobs(107, 12):
            for cell in cells_about(job):
                for kind in all_kinds(job):
                    wanted = [slips for slips in whole_slips(job)
                              if is_of_kind(plain_showing(job, slips, middle(cell)), kind)]
                    self.assertEqual(can_show(job, cell, kind), wanted[0] if wanted else None)

    def test_errors_in_order(self):
        raises(self, BadSheetCell, {}, can_show, EXAMPLE, (21, 0), ("alone", 2))
        for thing in ("alone", ("alone", 2), ("shows", True), *ODD_THINGS):
            raises(self, BadKind, {}, can_show, EXAMPLE, (0, 0), thing)


if __name__ == "__main__":
    unittest.main()
