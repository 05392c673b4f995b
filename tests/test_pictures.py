import unittest
from fractions import Fraction

from neverbare.jobs import Job
from neverbare.pictures import areas_of, parts_at, plain_of, same_picture
from neverbare.plates import Plate
from neverbare.sheets import Sheet, sheet_at, sheet_of
from tests.helping import Draws, all_tuples, as_ratio, drawn_jobs, drawn_slips

EMPTY = Sheet((), (), ())


def line(number):
    return as_ratio(Fraction(number))


def lines(*numbers):
    return tuple([line(Fraction(number)) for number in numbers])


ONE = Sheet(lines(0, 1, 2), lines(0, 1), [[(0,), ()]])
SAME = Sheet(lines(-1, 0, "1/2", 1), lines(0, "1/3", 1, 5), [
    [(), (0,), (0,)], [(), (0,), (0,)], [(), (), ()]])


def drawn_sheets(seed, many):
    """Sheets on few lines with few showings, so that many lines change nothing."""
    draws = Draws(seed)
    sheets = []
    for _ in range(many):
        xs = sorted({Fraction(draws.below(9), 2) for _ in range(2 + draws.below(4))} | {Fraction(-1), Fraction(6)})
        ys = sorted({Fraction(draws.below(9), 3) for _ in range(1 + draws.below(3))} | {Fraction(-1), Fraction(5)})
        rows = [[draws.one_of(((), (), (0,), (0, 1))) for _ in xs[1:]] for _ in ys[1:]]
        sheets.append(Sheet([line(x) for x in xs], [line(y) for y in ys], rows))
    return sheets


def shows(sheet, x, y):
    """What the sheet shows at numbers on no line, reckoned apart from the package."""
    columns = [i for i in range(len(sheet.xs) - 1) if Fraction(*sheet.xs[i]) < x < Fraction(*sheet.xs[i + 1])]
    rows = [j for j in range(len(sheet.ys) - 1) if Fraction(*sheet.ys[j]) < y < Fraction(*sheet.ys[j + 1])]
    if not columns or not rows:
        return ()
    return sheet.rows[rows[0]][columns[0]]


def first_difference(one, other):
    xs = sorted({Fraction(*x) for x in one.xs + other.xs})
    ys = sorted({Fraction(*y) for y in one.ys + other.ys})
    for low_y, high_y in zip(ys, ys[1:]):
        for low_x, high_x in zip(xs, xs[1:]):
            x, y = (low_x + high_x) / 2, (low_y + high_y) / 2
            if shows(one, x, y) != shows(other, x, y):
                return (as_ratio(x), as_ratio(y))
    return None


class TestPartsAt(unittest.TestCase):
    def test_same_picture(self):
        for one, other in ((ONE, SAME), (SAME, ONE), (ONE, ONE), (EMPTY, EMPTY),
                           (EMPTY, Sheet(lines(0, 1), lines(0, 1), [[()]]))):
            self.assertIsNone(parts_at(one, other))
            self.assertIs(same_picture(one, other), True)

    def test_first_rectangle(self):
        self.assertEqual(parts_at(ONE, EMPTY), lines("1/2", "1/2"))
        self.assertEqual(parts_at(EMPTY, ONE), lines("1/2", "1/2"))
        other = Sheet(lines(0, 2), lines("1/2", 1), [[(0,)]])
        self.assertEqual(parts_at(ONE, other), lines("1/2", "1/4"))
        self.assertEqual(parts_at(ONE, Sheet(lines(0, "1/2", 1), lines(0, 1), [[(0,), (1,)]])), lines("3/4", "1/2"))
        self.assertIs(same_picture(ONE, other), False)

    def test_lowest_along_y_comes_before_lowest_along_x(self):
        other = Sheet(lines(0, 1, 2), lines(0, 1, 2), [[(0,), (1,)], [(1,), ()]])
        self.assertEqual(parts_at(ONE, other), lines("3/2", "1/2"))

    def test_as_told(self):
        sheets = drawn_sheets(81, 24)
        for one in sheets:
            for other in sheets:
                wanted = first_difference(one, other)
                self.assertEqual(parts_at(one, other), wanted)
                self.assertIs(same_picture(one, other), wanted is None)
                self.assertEqual(plain_of(one) == plain_of(other), wanted is None)


class TestPlain(unittest.TestCase):
    def test_told_values(self):
        self.assertEqual(plain_of(ONE), Sheet(lines(0, 1), lines(0, 1), [[(0,)]]))
        self.assertEqual(plain_of(SAME), Sheet(lines(0, 1), lines(0, 1), [[(0,)]]))
        self.assertEqual(plain_of(EMPTY), EMPTY)
        self.assertEqual(plain_of(Sheet(lines(0, 1, 2), lines(0, 1), [[(), ()]])), EMPTY)

    def test_keeps_lines_that_change_something_somewhere(self):
        kept = Sheet(lines(0, 1, 2), lines(0, 1, 2), [[(0,), (0,)], [(0,), ()]])
        self.assertEqual(plain_of(kept), kept)
        hole = Sheet(lines(0, 1, 2, 3), lines(0, 1), [[(0,), (), (0,)]])
        self.assertEqual(plain_of(hole), hole)

    def test_keeps_exactly_the_lines_that_part_something(self):
        for sheet in drawn_sheets(82, 40):
            plain = plain_of(sheet)
            self.assertIs(same_picture(sheet, plain), True)
            self.assertEqual(plain_of(plain), plain)
            xs = [Fraction(*x) for x in sheet.xs]
            ys = [Fraction(*y) for y in sheet.ys]
            small = Fraction(1, 100)
            kept_x = [x for x in xs if any(
                shows(sheet, x - small, (a + b) / 2) != shows(sheet, x + small, (a + b) / 2)
                for a, b in zip(ys, ys[1:]))]
            kept_y = [y for y in ys if any(
                shows(sheet, (a + b) / 2, y - small) != shows(sheet, (a + b) / 2, y + small)
                for a, b in zip(xs, xs[1:]))]
            self.assertEqual(plain.xs, tuple([line(x) for x in kept_x]))
            self.assertEqual(plain.ys, tuple([line(y) for y in kept_y]))
            for j in range(len(plain.ys) - 1):
                for i in range(len(plain.xs) - 1):
                    x = Fraction(*plain.xs[i]) + small
                    y = Fraction(*plain.ys[j]) + small
                    self.assertEqual(plain.rows[j][i], sheet_at(sheet, (line(x), line(y))))


class TestAreas(unittest.TestCase):
    def test_told_values(self):
        self.assertEqual(areas_of(EMPTY), ())
        self.assertEqual(areas_of(ONE), (((0,), (1, 1)),))
        sheet = Sheet(lines(0, "1/2", 2), lines(0, 1, "4/3"), [[(1,), (0,)], [(0, 1), (1,)]])
        self.assertEqual(areas_of(sheet), (((0,), (3, 2)), ((0, 1), (1, 6)), ((1,), (1, 1))))
        all_tuples(self, areas_of(sheet))
        self.assertEqual(areas_of(Sheet(lines(0, 1), lines(0, 1), [[()]])), ())

    def test_plates_show_as_much_as_they_have(self):
        draws = Draws(83)
        for job in drawn_jobs(84, 60):
            slips = drawn_slips(draws, job)
            areas = areas_of(sheet_of(job, slips))
            self.assertEqual([row[0] for row in areas], sorted({row[0] for row in areas}))
            for plate in range(len(job)):
                shown = sum([Fraction(*area) for showing, area in areas if plate in showing])
                if any(above.hiding for above in job.plates[plate + 1:]):
                    self.assertLessEqual(shown, len(job.plates[plate]))
                else:
                    self.assertEqual(shown, len(job.plates[plate]))

    def test_hidden_ink(self):
        job = Job(2, 1, [Plate([(0, 0), (1, 0)], False, (1, 0)), Plate([(0, 0)], True, (1, 0))])
        self.assertEqual(areas_of(sheet_of(job, [((1, 2), (0, 1)), ((0, 1), (0, 1))])),
                         (((0,), (3, 2)), ((1,), (1, 1))))


if __name__ == "__main__":
    unittest.main()
