import unittest
from fractions import Fraction

from neverbare.errors import BadPlace, BadSheet, BadSlips, OnCut
from neverbare.jobs import Job
from neverbare.plates import Plate
from neverbare.sheets import Sheet, rectangle_at, sheet_at, sheet_of, table_of
from neverbare.shows import shown_at
from tests.helping import (
    ODD_THINGS, Draws, all_tuples, as_ratio, drawn_jobs, drawn_slips, leaves_alone, plain_on, raises,
)

ZERO = (0, 1)
ONE = (1, 1)
HALF = (1, 2)
XS = (ZERO, HALF, (2, 1))
YS = (ZERO, ONE, (3, 2))
ROWS = (((0,), ()), ((0, 1), (2,)))
SHEET = Sheet(XS, YS, ROWS)
JOB = Job(3, 2, [Plate([(0, 0), (2, 0)], False, (1, 1)), Plate([(1, 1)], True, (1, 1)), Plate([], True, (1, 1))])


class TestSheet(unittest.TestCase):
    def test_attributes(self):
        self.assertEqual((SHEET.xs, SHEET.ys, SHEET.rows), (XS, YS, ROWS))
        xs, ys = list(XS), list(YS)
        rows = [[[0], []], [[0, 1], [2]]]
        sheet = leaves_alone(self, Sheet, xs, ys, rows)
        self.assertEqual((sheet.xs, sheet.ys, sheet.rows), (XS, YS, ROWS))
        all_tuples(self, (sheet.xs, sheet.ys, sheet.rows))
        xs.append(None)
        ys.append(None)
        rows[0][0].append(9)
        rows.append(None)
        self.assertEqual((sheet.xs, sheet.ys, sheet.rows), (XS, YS, ROWS))
        self.assertEqual(Sheet([], [], []).rows, ())
        self.assertEqual(Sheet(rows=ROWS, ys=YS, xs=XS), SHEET)

    def test_bad_lines(self):
        odd = ([ZERO], [ONE, ZERO], [ZERO, ZERO], [ZERO, HALF, HALF], [ZERO, 1], [ZERO, (2, 2)], [ZERO, [1, 1]],
               [(1, 2), (1, 3)], [ONE, (1, 2)], [None, ONE], {ZERO, ONE}, [(True, 1), (2, 1)], [ZERO, None, ONE])
        for lines in (*odd, *ODD_THINGS):
            raises(self, BadSheet, {"what": "xs"}, Sheet, lines, None, None)
            raises(self, BadSheet, {"what": "ys"}, Sheet, XS, lines, None)
        raises(self, BadSheet, {"what": "ys"}, Sheet, [], YS, None)
        raises(self, BadSheet, {"what": "ys"}, Sheet, XS, [], [])
        raises(self, BadSheet, {"what": "ys"}, Sheet, [], YS, [[], []])
        raises(self, BadSheet, {"what": "ys"}, Sheet, [], [ZERO], [])

    def test_bad_rows(self):
        good = [[(0,), ()], [(0, 1), (2,)]]
        for rows in ([], [good[0]], [*good, good[0]], [good[0], [()]], [good[0], [(), (), ()]], [good[0], None],
                     {0: good[0], 1: good[1]}, *ODD_THINGS):
            raises(self, BadSheet, {"what": "rows"}, Sheet, XS, YS, rows)
        for showing in ((3,), (-1,), (1, 0), (0, 0), (True,), (0, True), ("0",), "0", None, 0, {0}, (None,), (0.0,)):
            raises(self, BadSheet, {"what": "rows"}, Sheet, XS, YS, [good[0], [(), showing]])
        for rows in ([[]], [[()]], None, [()]):
            raises(self, BadSheet, {"what": "rows"}, Sheet, [], [], rows)
        self.assertEqual(Sheet(XS[:2], YS[:2], [[(0, 1, 2)]]).rows, (((0, 1, 2),),))

    def test_equality(self):
        self.assertTrue(SHEET == Sheet(list(XS), list(YS), [list(row) for row in ROWS]))
        self.assertFalse(SHEET != Sheet(XS, YS, ROWS))
        for other in (Sheet((ZERO, ONE, (2, 1)), YS, ROWS), Sheet(XS, (ZERO, HALF, (3, 2)), ROWS),
                      Sheet(XS, YS, (ROWS[0], ((0, 1), (1,)))), None, ROWS, JOB):
            self.assertFalse(SHEET == other)
            self.assertTrue(SHEET != other)

    def test_moved(self):
        found = leaves_alone(self, SHEET.moved, [(1, 3), (-1, 1)])
        self.assertEqual(found, Sheet(((1, 3), (5, 6), (7, 3)), ((-1, 1), ZERO, HALF), ROWS))
        self.assertEqual(SHEET.xs, XS)
        self.assertEqual(Sheet((), (), ()).moved((ONE, ONE)), Sheet((), (), ()))
        for thing in ((), (ZERO,), (ZERO, 0), (ZERO, (2, 2)), ([0, 1], ZERO), (ZERO, ZERO, ZERO), *ODD_THINGS):
            raises(self, BadPlace, {}, SHEET.moved, thing)


class TestSheetOf(unittest.TestCase):
    def test_told_values(self):
        slips = [[HALF, ZERO], [ZERO, (-1, 2)], [(1, 3), (1, 3)]]
        sheet = leaves_alone(self, sheet_of, JOB, slips)
        self.assertEqual(sheet.xs, (HALF, ONE, (3, 2), (2, 1), (5, 2), (7, 2)))
        self.assertEqual(sheet.ys, (ZERO, HALF, ONE, (3, 2)))
        self.assertEqual(sheet.rows, (
            ((0,), (0,), (), (), (0,)),
            ((0,), (1,), (1,), (), (0,)),
            ((), (1,), (1,), (), ()),
        ))
        self.assertEqual(table_of(JOB, slips), sheet.rows)
        all_tuples(self, table_of(JOB, slips))

    def test_no_cells(self):
        job = Job(2, 2, [Plate([]), Plate([])])
        self.assertEqual(sheet_of(job, [((1, 3), ONE), (ZERO, ZERO)]), Sheet((), (), ()))
        self.assertEqual(table_of(job, [((1, 3), ONE), (ZERO, ZERO)]), ())

    def test_all_lines_of_a_plate_also_within_its_ink(self):
        job = Job(4, 1, [Plate([(0, 0), (1, 0), (3, 0)], False, (1, 0))])
        sheet = sheet_of(job, [((1, 3), ZERO)])
        self.assertEqual(sheet.xs, ((1, 3), (4, 3), (7, 3), (10, 3), (13, 3)))
        self.assertEqual(sheet.rows, (((0,), (0,), (), (0,)),))

    def test_rectangles_as_told(self):
        draws = Draws(71)
        for job in drawn_jobs(72, 40):
            slips = drawn_slips(draws, job)
            sheet = sheet_of(job, slips)
            self.assertEqual(table_of(job, slips), sheet.rows)
            for axis, lines in ((0, sheet.xs), (1, sheet.ys)):
                wanted = set()
                for plate, slip in zip(job.plates, slips):
                    numbers = [cell[axis] for cell in plate.cells]
                    if numbers:
                        wanted |= {k + Fraction(*slip[axis]) for k in range(min(numbers), max(numbers) + 2)}
                self.assertEqual(lines, tuple([as_ratio(line) for line in sorted(wanted)]))
            for j in range(len(sheet.ys) - 1):
                for i in range(len(sheet.xs) - 1):
                    x = (Fraction(*sheet.xs[i]) * 64 + Fraction(*sheet.xs[i + 1]) * 37) / 101
                    y = (Fraction(*sheet.ys[j]) * 64 + Fraction(*sheet.ys[j + 1]) * 37) / 101
                    place = (as_ratio(x), as_ratio(y))
                    if None not in [plain_on(p, s, place) for p, s in zip(job.plates, slips)]:
                        self.assertEqual(sheet.rows[j][i], shown_at(job, slips, place))
                    self.assertEqual(rectangle_at(sheet, place), (i, j))

    def test_errors(self):
        for call in (sheet_of, table_of):
            raises(self, BadSlips, {"index": 0, "what": "many"}, call, JOB, None)
            raises(self, BadSlips, {"index": 1, "what": "slip"}, call, JOB, [(ZERO, ZERO), None, None])
            raises(self, BadSlips, {"index": 2, "what": "bound"}, call, JOB, [(ZERO, ZERO)] * 2 + [(ZERO, (3, 2))])

    def test_all_plates_slipped_by_the_same_more(self):
        small = ((0, 1), (1, 3), (-1, 2), (1, 5))
        draws = Draws(73)
        for job in drawn_jobs(74, 20, bounds=((1, 1),)):
            slips = [(draws.one_of(small), draws.one_of(small)) for _ in job]
            by = (draws.one_of(small), draws.one_of(small))
            more = [(as_ratio(Fraction(*u) + Fraction(*by[0])), as_ratio(Fraction(*v) + Fraction(*by[1])))
                    for u, v in slips]
            self.assertEqual(sheet_of(job, more), sheet_of(job, slips).moved(by))


class TestRectangleAt(unittest.TestCase):
    def test_told_values(self):
        self.assertEqual(rectangle_at(SHEET, [(1, 4), HALF]), (0, 0))
        self.assertEqual(rectangle_at(SHEET, (ONE, HALF)), (1, 0))
        self.assertEqual(rectangle_at(SHEET, (ONE, (5, 4))), (1, 1))
        self.assertEqual(sheet_at(SHEET, (ONE, (5, 4))), (2,))
        self.assertEqual(sheet_at(SHEET, [(1, 4), (5, 4)]), (0, 1))
        self.assertEqual(sheet_at(SHEET, (ONE, HALF)), ())

    def test_beyond(self):
        for place in (((-1, 1), HALF), ((3, 1), HALF), (ONE, (-1, 1)), (ONE, (2, 1)), ((9, 1), (9, 1))):
            self.assertIsNone(rectangle_at(SHEET, place))
            self.assertEqual(sheet_at(SHEET, place), ())
        self.assertIsNone(rectangle_at(Sheet((), (), ()), (ZERO, ZERO)))
        self.assertEqual(sheet_at(Sheet((), (), ()), (ZERO, ZERO)), ())

    def test_errors(self):
        for call in (rectangle_at, sheet_at):
            for thing in ((0, 0), (ZERO,), (ZERO, (2, 2)), *ODD_THINGS):
                raises(self, BadPlace, {}, call, SHEET, thing)
            raises(self, OnCut, {"axis": 0, "index": 0}, call, SHEET, (ZERO, (1, 4)))
            raises(self, OnCut, {"axis": 0, "index": 2}, call, SHEET, ((2, 1), (99, 1)))
            raises(self, OnCut, {"axis": 0, "index": 1}, call, SHEET, (HALF, ONE))
            raises(self, OnCut, {"axis": 1, "index": 1}, call, SHEET, (ONE, ONE))
            raises(self, OnCut, {"axis": 1, "index": 2}, call, SHEET, ((-99, 1), (3, 2)))

    def test_shows_what_the_job_shows(self):
        draws = Draws(75)
        for job in drawn_jobs(76, 30):
            slips = drawn_slips(draws, job)
            sheet = sheet_of(job, slips)
            for _ in range(10):
                place = (as_ratio(Fraction(draws.below(50) - 15, 7) + Fraction(1, 11)),
                         as_ratio(Fraction(draws.below(50) - 15, 7) + Fraction(1, 13)))
                self.assertEqual(sheet_at(sheet, place), shown_at(job, slips, place))


if __name__ == "__main__":
    unittest.main()
